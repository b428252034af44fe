/- Processes: the reference's Texts and Same. (and what follows from it) -/
import Derived.Test.YtdekhiacejpflaaGreatDoorPv8
import Derived.Test.YtdekhiacejpflaaGreatDoorPv13
import Derived.Test.YtdekhiacejpflaaGreatDoorPv19
import Derived.Test.YtdekhiacejpflaaGreatDoorPv10
import Derived.Test.YtdekhiacejpflaaGreatDoorRows
import Derived.LaidLaws
import Derived.LaidMore
import Derived.MakeChecks
import Derived.OpenShut
import Derived.ChangeArms
import Derived.Stop.LaidErr
set_option maxHeartbeats 16000000
set_option maxRecDepth 100000
namespace Go.Proofs.YtdekhiacejpflaaGreatDoor
open Go.Lib (hid)
open Go.RowKit Go.Deep Go.Shelf
theorem Vz(B:Nat→Prop)(v v':Value)(ls ls':List ByteArray)(w:World)(h:StrSl B w v ls)(h':StrSl B w v' ls'):
 Calls Tryz.prog 34 #[v,v'] w fun e w'=>e= .returned (.bool (decide (ls=ls')))∧Drew w w':=by
 obtain⟨pa,len,c,rfl,hlen,hm,hget⟩:=h.open
 obtain⟨pa',len',c',rfl,hlen',hm',hget'⟩:=h'.open
 have HG:=hid hget
 have HG':=hid hget'
 clear hget hget' h h'
 by_cases hl:len=len'
 ·subst hl
  go_enter Tryz.func34,Tryz.ntmps34
  go_wp2_with fail
  go_loopw [5] (fun i wr=>∃(j:Nat),i= .int .i64 j∧j≤len∧Hid (ls.take j=ls'.take j)∧Drew w wr) (fun i _=>len-(intOf i).toNat)
  case atStart=>exact⟨0,rfl,by omega,hid (by simp),Drew.refl _⟩
  case round=>
   obtain⟨j,rfl,hj,HT,hd⟩:=hrel
   by_cases hlt:j<len
   ·obtain⟨s,hs⟩:∃s,ls[j]? =some s:=⟨_,List.getElem?_eq_getElem (by rw[←hlen.out];exact hlt)⟩
    obtain⟨s',hs'⟩:∃s',ls'[j]? =some s':=⟨_,List.getElem?_eq_getElem (by rw[←hlen'.out];exact hlt)⟩
    obtain⟨_,kb,ko,rfl,hkb,hc⟩:=HG.out j s hs
    obtain⟨_,kb',ko',rfl,hkb',hc'⟩:=HG'.out j s' hs'
    replace hc:wr.cell? ⟨kb,ko+j,none⟩=some (.string s):=by obtain⟨m,rfl⟩:=hd;exact hc
    replace hc':wr.cell? ⟨kb',ko'+j,none⟩=some (.string s'):=by obtain⟨m,rfl⟩:=hd;exact hc'
    by_cases hss:s=s'
    ·subst hss
     have hn:Hid (ls.take (j+1)=ls'.take (j+1)):=hid (by rw[take_snoc_get hs,take_snoc_get hs',HT.out])
     clear hs hs'
     go_wp2_with fail
     go_quiet (fail)
     go_wp2_with fail
     go_roundw
     case rel=>exact⟨j+1,by go_num,by omega,hn,hd.more _⟩
     case measure=>simp[intOf];omega
    ·have hne:Hid (ls≠ls'):=hid (fun e=>hss (by rw[e,hs'] at hs;exact(Option.some.inj hs).symm))
     have hb1:=str_ne hss
     have hb2:(s.toList==s'.toList)=false:=by simpa using hb1
     clear hs hs' hss
     go_wp2_with fail
     go_quiet (fail)
     go_wp2_with fail
     go_ret
     exact⟨ret_bool (by simp[hne.out]),hd.more _⟩
   ·obtain rfl:j=len:=by omega
    go_wp2_with fail
    go_ret
    refine⟨ret_bool ?_,hd⟩
    have:=HT.out
    rw[List.take_of_length_le (by rw[hlen.out];exact Nat.le_refl _),List.take_of_length_le (by rw[hlen'.out];exact Nat.le_refl _)] at this
    simp[this]
 ·have hl':(len != len')=true:=by simpa using hl
  have hne:ls≠ls':=fun e=>hl (by rw[hlen.out,hlen'.out,e])
  have HN:=hid hne
  clear hne
  go_enter Tryz.func34,Tryz.ntmps34
  go_wp2_with fail
  go_ret
  exact⟨ret_bool (by simp[HN.out]),Drew.refl _⟩
def RSameP(B:Nat→Prop)(p:Pr):Prop:=∀(q:Pr) (v v':Value) (w:World),Low B w→PrVal B w v p→PrVal B w v' q→Calls Tryz.prog 15 #[v,v'] w fun e w'=>e= .returned (.bool (eqP p q))∧Below w.heap.size w w'
abbrev wb2(w:World)(p q:Pr)(la:Option Addr)(ln lc:Nat)(aa:Option Addr)(an ac:Nat)(ta:Option Addr)(tn tc:Nat)(ua:Option Addr)(un uc:Nat)(ka:Option Addr)(kn kc:Nat)(la':Option Addr)(ln' lc':Nat)(aa':Option Addr)(an' ac':Nat)(ta':Option Addr)(tn' tc':Nat)(ua':Option Addr)(un' uc':Nat)(ka':Option Addr)(kn' kc':Nat):World:=
 (w.alloc (cell12 p (.slice la ln lc) (.slice aa an ac) (.slice ta tn tc) (.slice ua un uc) (.slice ka kn kc))).alloc (cell12 q (.slice la' ln' lc') (.slice aa' an' ac') (.slice ta' tn' tc') (.slice ua' un' uc') (.slice ka' kn' kc'))
theorem Xs(B:Nat→Prop)(p q:Pr)(ih:∀u∈p.ps,RSameP B u)(v v':Value)(w:World)(hB:Low B w)(hv:PrVal B w v p)(hv':PrVal B w v' q):
 Calls Tryz.prog 15 #[v,v'] w fun e w'=>e= .returned (.bool (eqP p q))∧Below w.heap.size w w':=by
 obtain⟨lv,av,tl,tk,kv,rfl,_,hl,ha,ht,hk⟩:=hv
 obtain⟨lv',av',tl',tk',kv',rfl,_,hl',ha',ht',hk'⟩:=hv'
 obtain⟨ka,kn,kc,rfl,hkn,hkm,hkg⟩:=hk.open
 obtain⟨ka',kn',kc',rfl,hkn',hkm',hkg'⟩:=hk'.open
 obtain⟨aa,an,ac,rfl,han,ham,hag⟩:=ha.open
 obtain⟨aa',an',ac',rfl,han',ham',hag'⟩:=ha'.open
 obtain⟨la,ln,lc,rfl,_⟩:=hl.open
 obtain⟨la',ln',lc',rfl,_⟩:=hl'.open
 obtain⟨⟨ta,tn,tc,rfl⟩,ua,un,uc,rfl⟩:=slices_of ht
 obtain⟨⟨ta',tn',tc',rfl⟩,ua',un',uc',rfl⟩:=slices_of ht'
 have hb0:Below w.heap.size w ((w.alloc (cell12 p (.slice la ln lc) (.slice aa an ac) (.slice ta tn tc) (.slice ua un uc) (.slice ka kn kc))).alloc (cell12 q (.slice la' ln' lc') (.slice aa' an' ac') (.slice ta' tn' tc') (.slice ua' un' uc') (.slice ka' kn' kc'))):=box2_below w _ _
 obtain⟨b1,hb1⟩:∃x,decide (p.ls=q.ls)=x:=⟨_,rfl⟩
 obtain⟨b2,hb2⟩:∃x,eqV p.vs q.vs=x:=⟨_,rfl⟩
 obtain⟨b3,hb3⟩:∃x,eqB p.t q.t=x:=⟨_,rfl⟩
 obtain⟨b4,hb4⟩:∃x,eqQ p.ps q.ps=x:=⟨_,rfl⟩
 have HEQ:Hid (eqP p q=(decide (p.k=q.k)&&(decide (p.c=q.c)&&(decide (p.x=q.x)&&(b1&&(b2&&(b3&&b4))))))):=hid (by
  rw[←hb1,←hb2,←hb3,←hb4,Bool.eq_iff_iff]
  simp only[eqP_true,Bool.and_eq_true,decide_eq_true_eq,eqV_true,eqB_true,eqQ_true]
  cases p;cases q
  simp only[Pr.mk.injEq,Pr.k,Pr.c,Pr.x,Pr.ls,Pr.vs,Pr.t,Pr.ps])
 have HT:Hid (Calls Tryz.prog 34 #[.slice la ln lc,.slice la' ln' lc'] ((w.alloc (cell12 p (.slice la ln lc) (.slice aa an ac) (.slice ta tn tc) (.slice ua un uc) (.slice ka kn kc))).alloc (cell12 q (.slice la' ln' lc') (.slice aa' an' ac') (.slice ta' tn' tc') (.slice ua' un' uc') (.slice ka' kn' kc'))) fun e w'=>e= .returned (.bool b1)∧Below ((w.alloc (cell12 p (.slice la ln lc) (.slice aa an ac) (.slice ta tn tc) (.slice ua un uc) (.slice ka kn kc))).alloc (cell12 q (.slice la' ln' lc') (.slice aa' an' ac') (.slice ta' tn' tc') (.slice ua' un' uc') (.slice ka' kn' kc'))).heap.size ((w.alloc (cell12 p (.slice la ln lc) (.slice aa an ac) (.slice ta tn tc) (.slice ua un uc) (.slice ka kn kc))).alloc (cell12 q (.slice la' ln' lc') (.slice aa' an' ac') (.slice ta' tn' tc') (.slice ua' un' uc') (.slice ka' kn' kc'))) w'):=hid ((Vz B _ _ _ _ _ (hl.keep (hb0.keeps'.mono hB)) (hl'.keep (hb0.keeps'.mono hB))).mono fun e w' ⟨h1,h2⟩=>⟨by rw[h1,hb1],h2.below _⟩)
 have HY:Hid (∀W,Below w.heap.size w W→Calls Tryz.prog 18 #[.agg #[.int .i64 p.t.k,.int .i64 p.t.p,.string p.t.n,.int .i64 p.t.s,.slice ta tn tc,.slice ua un uc],.agg #[.int .i64 q.t.k,.int .i64 q.t.p,.string q.t.n,.int .i64 q.t.s,.slice ta' tn' tc',.slice ua' un' uc']] W fun e w'=>e= .returned (.bool b3)∧Below W.heap.size W w'):=hid (fun W hW=>by
  rw[←hb3];exact rsame_any B p.t q.t _ _ W (hB.le hW.size) (ht.keep (hW.keeps'.mono hB)) (ht'.keep (hW.keeps'.mono hB)))
 have HV1:Hid (an≠an'→b2=false):=hid (fun h=>by rw[←hb2];exact eqV_ne (fun e=>h (by rw[han.out,han'.out,e])))
 have HV2:Hid (an=an'→p.vs.take an=q.vs.take an→b2=true):=hid (fun h h2=>by rw[←hb2];exact eqV_true.2 (lists_eq han.out (h.trans han'.out) h2))
 have HV3:Hid (∀(j:Nat) (s s':Vl),p.vs[j]? =some s→q.vs[j]? =some s'→s≠s'→b2=false):=hid (fun j s s' h h' hn=>by rw[←hb2];exact eqV_ne (fun e=>hn (by rw[e,h'] at h;exact(Option.some.inj h).symm)))
 have HK1:Hid (kn≠kn'→b4=false):=hid (fun h=>by rw[←hb4];exact eqQ_ne (fun e=>h (by rw[hkn.out,hkn'.out,e])))
 have HK2:Hid (kn=kn'→p.ps.take kn=q.ps.take kn→b4=true):=hid (fun h h2=>by rw[←hb4];exact eqQ_true.2 (lists_eq hkn.out (h.trans hkn'.out) h2))
 have HK3:Hid (∀(j:Nat) (s s':Pr),p.ps[j]? =some s→q.ps[j]? =some s'→s≠s'→b4=false):=hid (fun j s s' h h' hn=>by rw[←hb4];exact eqQ_ne (fun e=>hn (by rw[e,h'] at h;exact(Option.some.inj h).symm)))
 have HIH:=hid ih
 have HGV:=hid hag
 have HGV':=hid hag'
 have HGK:=hid hkg
 have HGK':=hid hkg'
 have HB0:=hid hb0
 rw[HEQ.out]
 clear HEQ hb1 hb2 hb3 hb4 hl ha ht hk hl' ha' ht' hk' hag hag' hkg hkg' ih hb0
 unfold prAgg
 by_cases h1:p.k=q.k
 ·have h1':(p.k != q.k)=false:=by simp[h1]
  rw[show decide (p.k=q.k)=true by simpa using h1,Bool.true_and]
  by_cases h2:p.c=q.c
  ·have h2':(p.c.toList != q.c.toList)=false:=by simp[h2]
   have h2e:(p.c.toList==q.c.toList)=true:=by simp[h2]
   rw[show decide (p.c=q.c)=true by simpa using h2,Bool.true_and]
   by_cases h3:p.x=q.x
   ·have h3':(p.x.toList != q.x.toList)=false:=by simp[h3]
    have h3e:(p.x.toList==q.x.toList)=true:=by simp[h3]
    rw[show decide (p.x=q.x)=true by simpa using h3,Bool.true_and]
    clear h1 h2 h3
    cases b1
    ·rw[Bool.false_and]
     go_enter Tryz.func15,Tryz.ntmps15
     go_wp2_with fail
     refine HT.out.mono ?_
     rintro e w1⟨rfl,g1⟩
     go_wp2_with fail
     go_ret
     exact⟨rfl,below_seq HB0.out g1⟩
    ·rw[Bool.true_and]
     by_cases h4:an=an'
     ·subst h4
      cases b3
      ·rw[Bool.false_and,Bool.and_false]
       go_enter Tryz.func15,Tryz.ntmps15
       go_wp2_with fail
       refine HT.out.mono ?_
       rintro e w1⟨rfl,g1⟩
       have gb:Below (w.heap.size+2) (wb2 w p q la ln lc aa an ac ta tn tc ua un uc ka kn kc la' ln' lc' aa' an ac' ta' tn' tc' ua' un' uc' ka' kn' kc') w1:=g1.mono (by simp)
       have c4:=box2_fst gb 4 rfl
       have c4':=box2_snd gb 4 rfl
       have c5:=box2_fst gb 5 rfl
       have c5':=box2_snd gb 5 rfl
       have c6:=box2_fst gb 6 rfl
       have c6':=box2_snd gb 6 rfl
       have c7:=box2_fst gb 7 rfl
       have c7':=box2_snd gb 7 rfl
       have c8:=box2_fst gb 8 rfl
       have c8':=box2_snd gb 8 rfl
       have c9:=box2_fst gb 9 rfl
       have c9':=box2_snd gb 9 rfl
       have c10:=box2_fst gb 10 rfl
       have c10':=box2_snd gb 10 rfl
       go_wp2_with fail
       clear c4 c4' c5 c5' c6 c6' c7 c7' c8 c8' c9 c9' c10 c10'
       refine(HY.out _ (box2_low gb)).mono ?_
       rintro e w2⟨rfl,g2⟩
       go_wp2_with fail
       go_ret
       exact⟨rfl,below_seq (box2_low gb) g2⟩
      ·rw[Bool.true_and]
       by_cases h5:kn=kn'
       ·subst h5
        go_enter Tryz.func15,Tryz.ntmps15
        go_wp2_with fail
        refine HT.out.mono ?_
        rintro e w1⟨rfl,g1⟩
        have gb:Below (w.heap.size+2) (wb2 w p q la ln lc aa an ac ta tn tc ua un uc ka kn kc la' ln' lc' aa' an ac' ta' tn' tc' ua' un' uc' ka' kn kc') w1:=g1.mono (by simp)
        have c4:=box2_fst gb 4 rfl
        have c4':=box2_snd gb 4 rfl
        have c5:=box2_fst gb 5 rfl
        have c5':=box2_snd gb 5 rfl
        have c6:=box2_fst gb 6 rfl
        have c6':=box2_snd gb 6 rfl
        have c7:=box2_fst gb 7 rfl
        have c7':=box2_snd gb 7 rfl
        have c8:=box2_fst gb 8 rfl
        have c8':=box2_snd gb 8 rfl
        have c9:=box2_fst gb 9 rfl
        have c9':=box2_snd gb 9 rfl
        have c10:=box2_fst gb 10 rfl
        have c10':=box2_snd gb 10 rfl
        go_wp2_with fail
        clear c4 c4' c5 c5' c6 c6' c7 c7' c8 c8' c9 c9' c10 c10'
        refine(HY.out _ (box2_low gb)).mono ?_
        rintro e w2⟨rfl,g2⟩
        have gc:Below (w.heap.size+2) (wb2 w p q la ln lc aa an ac ta tn tc ua un uc ka kn kc la' ln' lc' aa' an ac' ta' tn' tc' ua' un' uc' ka' kn kc') w2:=gb.trans (g2.mono (by have:=gb.size;simp at this;omega))
        have c11:=box2_fst gc 11 rfl
        have c11':=box2_snd gc 11 rfl
        go_wp2_with fail
        clear c11 c11' HT HY g1 g2
        have GC:=hid gc
        clear gb gc
        go_loopw [5] (fun i wr=>∃(j:Nat),i= .int .i64 j∧j≤an∧Hid (p.vs.take j=q.vs.take j)∧Below (w.heap.size+2) (wb2 w p q la ln lc aa an ac ta tn tc ua un uc ka kn kc la' ln' lc' aa' an ac' ta' tn' tc' ua' un' uc' ka' kn kc') wr) (fun i _=>an-(intOf i).toNat)
        case atStart=>exact⟨0,rfl,by omega,hid (by simp),GC.out⟩
        case round=>
         obtain⟨j,rfl,hj,HTK,hb⟩:=hrel
         have c4:=box2_fst hb 4 rfl
         have c4':=box2_snd hb 4 rfl
         have hw:=box2_low hb
         by_cases hlt:j<an
         ·obtain⟨s,hs⟩:∃s,p.vs[j]? =some s:=⟨_,List.getElem?_eq_getElem (by rw[←han.out];exact hlt)⟩
          obtain⟨s',hs'⟩:∃s',q.vs[j]? =some s':=⟨_,List.getElem?_eq_getElem (by rw[←han'.out];exact hlt)⟩
          obtain⟨_,kb,ko,rfl,hkb,hc⟩:=HGV.out j s hs
          obtain⟨_,kb',ko',rfl,hkb',hc'⟩:=HGV'.out j s' hs'
          have e0:=(hw.cell (p:=⟨kb,_,none⟩) (hB kb hkb)).trans hc.1
          have e1:=(hw.cell (p:=⟨kb,_,none⟩) (hB kb hkb)).trans hc.2.1
          have e2:=(hw.cell (p:=⟨kb,_,none⟩) (hB kb hkb)).trans hc.2.2
          have e0':=(hw.cell (p:=⟨kb',_,none⟩) (hB kb' hkb')).trans hc'.1
          have e1':=(hw.cell (p:=⟨kb',_,none⟩) (hB kb' hkb')).trans hc'.2.1
          have e2':=(hw.cell (p:=⟨kb',_,none⟩) (hB kb' hkb')).trans hc'.2.2
          clear hc hc'
          by_cases hss:s=s'
          ·subst hss
           have hn:Hid (p.vs.take (j+1)=q.vs.take (j+1)):=hid (by rw[take_snoc_get hs,take_snoc_get hs',HTK.out])
           clear hs hs'
           go_wp2_with fail
           go_quiet (fail)
           go_wp2_with fail
           go_roundw
           case rel=>exact⟨j+1,by go_num,by omega,hn,below_drewN hb _⟩
           case measure=>simp[intOf];omega
          ·have HF:=hid (HV3.out j s s' hs hs' hss)
           clear hs hs'
           obtain⟨k,n,x⟩:=s
           obtain⟨k',n',x'⟩:=s'
           simp only at e0 e1 e2 e0' e1' e2'
           by_cases z1:k=k'
           ·subst z1
            by_cases z2:n=n'
            ·subst z2
             have z3:(x==x')=false:=by simp;intro e;exact hss (by rw[e])
             clear hss
             go_wp2_with fail
             go_quiet (fail)
             go_wp2_with fail
             go_ret
             exact⟨ret_bool (by rw[HF.out,Bool.false_and]),below_drewN hw _⟩
            ·have z3:=str_ne z2
             have z4:(n.toList==n'.toList)=false:=by simpa using z3
             clear hss z2
             go_wp2_with fail
             go_quiet (fail)
             go_wp2_with fail
             go_ret
             exact⟨ret_bool (by rw[HF.out,Bool.false_and]),below_drewN hw _⟩
           ·have z3:(k==k')=false:=by simpa using z1
            clear hss z1
            go_wp2_with fail
            go_quiet (fail)
            go_wp2_with fail
            go_ret
            exact⟨ret_bool (by rw[HF.out,Bool.false_and]),below_drewN hw _⟩
         ·obtain rfl:an=j:=by omega
          have HB2:=hid (HV2.out (by first|trivial|rfl) HTK.out)
          clear HTK
          go_wp2_with fail
          clear c4 c4'
          have GD:=hid hb
          clear hb
          go_loopw [6] (fun i wr=>∃(m:Nat),i= .int .i64 m∧m≤kn∧Hid (p.ps.take m=q.ps.take m)∧Below (w.heap.size+2) (wb2 w p q la ln lc aa an ac ta tn tc ua un uc ka kn kc la' ln' lc' aa' an ac' ta' tn' tc' ua' un' uc' ka' kn kc') wr) (fun i _=>kn-(intOf i).toNat)
          case atStart=>exact⟨0,rfl,by omega,hid (by simp),GD.out⟩
          case round=>
           obtain⟨m,rfl,hm,HTK,hb⟩:=hrel
           have c11:=box2_fst hb 11 rfl
           have c11':=box2_snd hb 11 rfl
           have hw:=box2_low hb
           by_cases hlt:m<kn
           ·obtain⟨s,hs⟩:∃s,p.ps[m]? =some s:=⟨_,List.getElem?_eq_getElem (by rw[←hkn.out];exact hlt)⟩
            obtain⟨s',hs'⟩:∃s',q.ps[m]? =some s':=⟨_,List.getElem?_eq_getElem (by rw[←hkn'.out];exact hlt)⟩
            obtain⟨kb,ko,rfl,hkb,hty⟩:=HGK.out m s hs
            obtain⟨kb',ko',rfl,hkb',hty'⟩:=HGK'.out m s' hs'
            obtain⟨la1,ln1,lc1,aa1,an1,ac1,ta1,tn1,tc1,ua1,un1,uc1,ka1,kn1,kc1,⟨D0,D1,D2,D3,D4,D5,D6,D7,D8,D9,D10,D11⟩,hval⟩:=(hty.keep (hw.keeps'.mono hB)).load'
            obtain⟨la2,ln2,lc2,aa2,an2,ac2,ta2,tn2,tc2,ua2,un2,uc2,ka2,kn2,kc2,⟨F0,F1,F2,F3,F4,F5,F6,F7,F8,F9,F10,F11⟩,hval'⟩:=(hty'.keep (hw.keeps'.mono hB)).load'
            have IH:Hid (∀W,Below wr.heap.size wr W→Calls Tryz.prog 15 #[prAgg s (.slice la1 ln1 lc1) (.slice aa1 an1 ac1) (.slice ta1 tn1 tc1) (.slice ua1 un1 uc1) (.slice ka1 kn1 kc1),prAgg s' (.slice la2 ln2 lc2) (.slice aa2 an2 ac2) (.slice ta2 tn2 tc2) (.slice ua2 un2 uc2) (.slice ka2 kn2 kc2)] W fun e w'=>e= .returned (.bool (eqP s s'))∧Below W.heap.size W w'):=
             hid (fun W hW=>HIH.out s (List.mem_of_getElem? hs) s' _ _ W (hB.le (Nat.le_trans hw.size hW.size)) (hval.to (hB.le hw.size) hW) (hval'.to (hB.le hw.size) hW))
            have hbk:=hB kb hkb
            have hbk':=hB kb' hkb'
            have lift:∀ {v:Value} {x:Nat},wr.cell? ⟨kb,x,none⟩=some v→∀W,Below wr.heap.size wr W→W.cell? ⟨kb,x,none⟩=some v:=fun h W hW=>(hW.cell (p:=⟨kb,_,none⟩) (by have:=hw.size;simp;omega)).trans h
            have lift':∀ {v:Value} {x:Nat},wr.cell? ⟨kb',x,none⟩=some v→∀W,Below wr.heap.size wr W→W.cell? ⟨kb',x,none⟩=some v:=fun h W hW=>(hW.cell (p:=⟨kb',_,none⟩) (by have:=hw.size;simp;omega)).trans h
            have x11:=fun Q:Later wr.heap.size wr=>(Q.2.cell (p:=⟨w.heap.size,11,none⟩) (by have:=hb.size;simp at this;simp;omega)).trans c11
            have x11':=fun Q:Later wr.heap.size wr=>(Q.2.cell (p:=⟨w.heap.size+1,11,none⟩) (by have:=hb.size;simp at this;simp;omega)).trans c11'
            have X0:=fun Q:Later wr.heap.size wr=>lift D0 Q.1 Q.2
            have Y0:=fun Q:Later wr.heap.size wr=>lift' F0 Q.1 Q.2
            have X1:=fun Q:Later wr.heap.size wr=>lift D1 Q.1 Q.2
            have Y1:=fun Q:Later wr.heap.size wr=>lift' F1 Q.1 Q.2
            have X2:=fun Q:Later wr.heap.size wr=>lift D2 Q.1 Q.2
            have Y2:=fun Q:Later wr.heap.size wr=>lift' F2 Q.1 Q.2
            have X3:=fun Q:Later wr.heap.size wr=>lift D3 Q.1 Q.2
            have Y3:=fun Q:Later wr.heap.size wr=>lift' F3 Q.1 Q.2
            have X4:=fun Q:Later wr.heap.size wr=>lift D4 Q.1 Q.2
            have Y4:=fun Q:Later wr.heap.size wr=>lift' F4 Q.1 Q.2
            have X5:=fun Q:Later wr.heap.size wr=>lift D5 Q.1 Q.2
            have Y5:=fun Q:Later wr.heap.size wr=>lift' F5 Q.1 Q.2
            have X6:=fun Q:Later wr.heap.size wr=>lift D6 Q.1 Q.2
            have Y6:=fun Q:Later wr.heap.size wr=>lift' F6 Q.1 Q.2
            have X7:=fun Q:Later wr.heap.size wr=>lift D7 Q.1 Q.2
            have Y7:=fun Q:Later wr.heap.size wr=>lift' F7 Q.1 Q.2
            have X8:=fun Q:Later wr.heap.size wr=>lift D8 Q.1 Q.2
            have Y8:=fun Q:Later wr.heap.size wr=>lift' F8 Q.1 Q.2
            have X9:=fun Q:Later wr.heap.size wr=>lift D9 Q.1 Q.2
            have Y9:=fun Q:Later wr.heap.size wr=>lift' F9 Q.1 Q.2
            have X10:=fun Q:Later wr.heap.size wr=>lift D10 Q.1 Q.2
            have Y10:=fun Q:Later wr.heap.size wr=>lift' F10 Q.1 Q.2
            have X11:=fun Q:Later wr.heap.size wr=>lift D11 Q.1 Q.2
            have Y11:=fun Q:Later wr.heap.size wr=>lift' F11 Q.1 Q.2
            clear lift lift' hval hval' hty hty' D0 F0 D1 F1 D2 F2 D3 F3 D4 F4 D5 F5 D6 F6 D7 F7 D8 F8 D9 F9 D10 F10 D11 F11
            by_cases hss:s=s'
            ·rw[eqP_true.2 hss] at IH
             have hn:Hid (p.ps.take (m+1)=q.ps.take (m+1)):=hid (by rw[take_snoc_get hs,take_snoc_get hs',HTK.out,hss])
             clear hs hs' hss
             unfold prAgg at IH
             go_wp2_with fail
             clear c11 c11'
             refine wp_region_later wr.heap.size wr (by kernel_rfl) (by kernel_rfl) (Below.refl _ _) ?_
             repeat (go_big_quiet_step ((go_at_call 15;exact later_call _ (Nat.le_refl _) (IH.out _ (Subtype.property _)))))
             refine wpQuiet_nil ?_
             rintro _⟨⟨w5,hb5⟩,rfl⟩
             clear x11 x11' X0 Y0 X1 Y1 X2 Y2 X3 Y3 X4 Y4 X5 Y5 X6 Y6 X7 Y7 X8 Y8 X9 Y9 X10 Y10 X11 Y11
             go_wp2_with fail
             go_roundw
             case rel=>exact⟨m+1,by go_num,by omega,hn,hb.trans (hb5.mono (by have:=hb.size;simpa using this))⟩
             case measure=>simp[intOf];omega
            ·rw[eqP_ne hss] at IH
             have HF:=hid (HK3.out m s s' hs hs' hss)
             clear hs hs' hss
             unfold prAgg at IH
             go_wp2_with fail
             clear c11 c11'
             refine wp_region_later wr.heap.size wr (by kernel_rfl) (by kernel_rfl) (Below.refl _ _) ?_
             repeat (go_big_quiet_step ((go_at_call 15;exact later_call _ (Nat.le_refl _) (IH.out _ (Subtype.property _)))))
             refine wpQuiet_nil ?_
             rintro _⟨⟨w5,hb5⟩,rfl⟩
             clear x11 x11' X0 Y0 X1 Y1 X2 Y2 X3 Y3 X4 Y4 X5 Y5 X6 Y6 X7 Y7 X8 Y8 X9 Y9 X10 Y10 X11 Y11
             go_wp2_with fail
             go_ret
             exact⟨ret_bool (by rw[HF.out,Bool.and_false]),below_seq hw hb5⟩
           ·obtain rfl:m=kn:=by omega
            have HB4:=hid (HK2.out (by first|trivial|rfl) HTK.out)
            clear HTK
            go_wp2_with fail
            go_ret
            exact⟨ret_bool (by rw[HB2.out,HB4.out];rfl),hw⟩
       ·have HF:=hid (HK1.out h5)
        have h5':(kn != kn')=true:=by simpa using h5
        clear h5
        go_enter Tryz.func15,Tryz.ntmps15
        go_wp2_with fail
        refine HT.out.mono ?_
        rintro e w1⟨rfl,g1⟩
        have gb:Below (w.heap.size+2) (wb2 w p q la ln lc aa an ac ta tn tc ua un uc ka kn kc la' ln' lc' aa' an ac' ta' tn' tc' ua' un' uc' ka' kn' kc') w1:=g1.mono (by simp)
        have c4:=box2_fst gb 4 rfl
        have c4':=box2_snd gb 4 rfl
        have c5:=box2_fst gb 5 rfl
        have c5':=box2_snd gb 5 rfl
        have c6:=box2_fst gb 6 rfl
        have c6':=box2_snd gb 6 rfl
        have c7:=box2_fst gb 7 rfl
        have c7':=box2_snd gb 7 rfl
        have c8:=box2_fst gb 8 rfl
        have c8':=box2_snd gb 8 rfl
        have c9:=box2_fst gb 9 rfl
        have c9':=box2_snd gb 9 rfl
        have c10:=box2_fst gb 10 rfl
        have c10':=box2_snd gb 10 rfl
        go_wp2_with fail
        clear c4 c4' c5 c5' c6 c6' c7 c7' c8 c8' c9 c9' c10 c10'
        refine(HY.out _ (box2_low gb)).mono ?_
        rintro e w2⟨rfl,g2⟩
        have gc:Below (w.heap.size+2) (wb2 w p q la ln lc aa an ac ta tn tc ua un uc ka kn kc la' ln' lc' aa' an ac' ta' tn' tc' ua' un' uc' ka' kn' kc') w2:=gb.trans (g2.mono (by have:=gb.size;simp at this;omega))
        have c11:=box2_fst gc 11 rfl
        have c11':=box2_snd gc 11 rfl
        go_wp2_with fail
        go_ret
        exact⟨ret_bool (by rw[HF.out,Bool.and_false]),box2_low gc⟩
     ·have HF:=hid (HV1.out h4)
      have h4':(an != an')=true:=by simpa using h4
      have h4'':(an==an')=false:=by simpa using h4
      have h4i:((an:Int)==(an':Int))=false:=by simp;omega
      have h4j:((an:Int) != (an':Int))=true:=by simp;omega
      clear h4
      go_enter Tryz.func15,Tryz.ntmps15
      go_wp2_with fail
      refine HT.out.mono ?_
      rintro e w1⟨rfl,g1⟩
      have gb:Below (w.heap.size+2) (wb2 w p q la ln lc aa an ac ta tn tc ua un uc ka kn kc la' ln' lc' aa' an' ac' ta' tn' tc' ua' un' uc' ka' kn' kc') w1:=g1.mono (by simp)
      have c4:=box2_fst gb 4 rfl
      have c4':=box2_snd gb 4 rfl
      go_wp2_with fail
      go_ret
      exact⟨ret_bool (by rw[HF.out,Bool.false_and]),box2_low gb⟩
   ·have h3':=str_ne h3
    have h3e:(p.x.toList==q.x.toList)=false:=by simpa using h3'
    rw[show decide (p.x=q.x)=false by simpa using h3,Bool.false_and]
    clear h1 h2 h3
    go_enter Tryz.func15,Tryz.ntmps15
    go_wp2_with fail
    go_ret
    exact⟨rfl,HB0.out⟩
  ·have h2':=str_ne h2
   have h2e:(p.c.toList==q.c.toList)=false:=by simpa using h2'
   rw[show decide (p.c=q.c)=false by simpa using h2,Bool.false_and]
   clear h1 h2
   go_enter Tryz.func15,Tryz.ntmps15
   go_wp2_with fail
   go_ret
   exact⟨rfl,HB0.out⟩
 ·have h1':(p.k != q.k)=true:=by simpa using h1
  rw[show decide (p.k=q.k)=false by simpa using h1,Bool.false_and]
  clear h1
  go_enter Tryz.func15,Tryz.ntmps15
  go_wp2_with fail
  go_ret
  exact⟨rfl,HB0.out⟩
theorem Vp(B:Nat→Prop):∀(p:Pr),RSameP B p:=by
 refine Pr.ind ?_
 intro k c x ls vs t ps ih q v v' w hB hv hv'
 exact Xs B (.mk k c x ls vs t ps) q ih v v' w hB hv hv'
theorem Ud(e p:Int)(w:World):Calls Tryz.prog 12 #[.agg #[.int .i64 e,.int .i64 p]] w fun en w'=>en= .returned (.agg #[.int .i64 e,.int .i64 p])∧Below w.heap.size w w':=by
 obtain⟨W2,hW2⟩:∃W2,(w.alloc (.cells #[.int .i64 e,.int .i64 p] 36)).alloc (.cells #[.int .i64 0,.int .i64 0] 42)=W2:=⟨_,rfl⟩
 have htw:=Ja w #[.int .i64 e,.int .i64 p] #[.int .i64 0,.int .i64 0] 36 42
 rw[hW2] at htw
 have HT:=hid htw
 have q1:=htw.1
 have c0:W2.cell? ⟨w.heap.size,0,none⟩=some (.int .i64 e):=by simp only[World.cell?,q1];rfl
 have c1:W2.cell? ⟨w.heap.size,1,none⟩=some (.int .i64 p):=by simp only[World.cell?,q1];rfl
 clear q1 htw
 go_enter Tryz.func12,Tryz.ntmps12
 go_upto_region 1 with fail
 have q2:=HT.out.2.1
 have z0:=frozen_of_block q2 0
 have z1:=frozen_of_block q2 1
 have e0:W2.cell? ⟨w.heap.size+1,0,none⟩=some (.int .i64 0):=by simp only[World.cell?,q2];rfl
 have e1:W2.cell? ⟨w.heap.size+1,1,none⟩=some (.int .i64 0):=by simp only[World.cell?,q2];rfl
 clear q2
 go_wp2_with fail
 have hx8:((W2.setCell ⟨w.heap.size+1,0,none⟩ (.int .i64 e)).setCell ⟨w.heap.size+1,1,none⟩ (.int .i64 p)).heap[w.heap.size+1]? =some (.cells #[.int .i64 e,.int .i64 p] 42 (0,0)):=set_block (set_block HT.out.2.1 0 _) 1 _
 have y0:((W2.setCell ⟨w.heap.size+1,0,none⟩ (.int .i64 e)).setCell ⟨w.heap.size+1,1,none⟩ (.int .i64 p)).cell? ⟨w.heap.size+1,0,none⟩=some (.int .i64 e):=by simp only[World.cell?,hx8];rfl
 have y1:((W2.setCell ⟨w.heap.size+1,0,none⟩ (.int .i64 e)).setCell ⟨w.heap.size+1,1,none⟩ (.int .i64 p)).cell? ⟨w.heap.size+1,1,none⟩=some (.int .i64 p):=by simp only[World.cell?,hx8];rfl
 refine bodyPost_ret (v:= .agg #[.int .i64 e,.int .i64 p]) (by simp[results,Tryz.results12,go_sem,y0,y1]) rfl ?_
 exact⟨rfl,(HT.out.2.2.setCell (p:=⟨w.heap.size+1,0,none⟩) (by show _≤w.heap.size+1;omega) _).setCell (p:=⟨w.heap.size+1,1,none⟩) (by show _≤w.heap.size+1;omega) _⟩
theorem GPr.to_{b:Nat}{w w':World}{p:Pr}{v:Value}(h:GPr b w p v)(hb:Below w.heap.size w w'):GPr b w' p v:=
 PrVal.mono (fun _ hk=>⟨hk.1,Nat.lt_of_lt_of_le hk.2 hb.size⟩) (PrVal.keep (w':=w') (fun k _ hk ho _=>(hb.block k hk.2).trans ho) h)
def OutP(x:Pr)(mk:Value→Value)(w:World)(e:Ending)(w':World):Prop:=∃la ln lc aa an ac ta tn tc ua un uc ka kn kc,e= .returned (mk (.agg (gP x la ln lc aa an ac ta tn tc ua un uc ka kn kc)))∧GPr w.heap.size w' x (.agg (gP x la ln lc aa an ac ta tn tc ua un uc ka kn kc))∧Below w.heap.size w w'
theorem out_ex(q:Pr ⊕ (Int×Int)):∃(x:Pr) (fe fp:Int),(∀w e w',WRes w q GPr (.agg (cN 0 ⟨#[]⟩ ⟨#[]⟩ (.slice none 0 0) (.slice none 0 0) (.slice none 0 0))) e w'→OutP x (fun v=> .tuple #[v,.agg #[.int .i64 fe,.int .i64 fp]]) w e w')∧∀w e w',RRes w q GPr (.agg (cN 0 ⟨#[]⟩ ⟨#[]⟩ (.slice none 0 0) (.slice none 0 0) (.slice none 0 0))) e w'→OutP x (fun v=> .tuple #[v,.int .i64 fe,.int .i64 fp]) w e w':=by
 have hz:∀b w,GPr b w (.mk 0 ⟨#[]⟩ ⟨#[]⟩ [] [] zT []) (.agg (cN 0 ⟨#[]⟩ ⟨#[]⟩ (.slice none 0 0) (.slice none 0 0) (.slice none 0 0))):=fun b w=>GPr.node (t:=zT) (Nat.zero_le _) (Nat.zero_le _) (strs_nil _ _) (vls_nil _ _) (zT_at _ _) (prs_nil _ _)
 match q with
 | .inl x=>
  refine⟨x,0,0,?_,?_⟩ <;>
  ·rintro w e w'⟨⟨v,rfl,hg⟩,hb⟩
   obtain⟨la,ln,lc,aa,an,ac,ta,tn,tc,ua,un,uc,ka,kn,kc,rfl⟩:=hg.open
   exact⟨la,ln,lc,aa,an,ac,ta,tn,tc,ua,un,uc,ka,kn,kc,rfl,hg,hb⟩
 | .inr (er,p)=>exact⟨.mk 0 ⟨#[]⟩ ⟨#[]⟩ [] [] zT [],er,p,fun w e w' ⟨h,hb⟩=>⟨none,0,0,none,0,0,none,0,0,none,0,0,none,0,0,h,hz _ _,hb⟩,fun w e w' ⟨h,hb⟩=>⟨none,0,0,none,0,0,none,0,0,none,0,0,none,0,0,h,hz _ _,hb⟩⟩
theorem Ze(s:ByteArray)(hs:s.size≤maxLen)(B:Nat)(w:World)(he:Tok.Env B w):Calls Tryz.prog 4 #[.string s] w fun e w'=>e= .returned (.bool true)∧Below w.heap.size w w':=by
 have HAW:=hid (fun W (hW:Below w.heap.size w W)=>Ug B W (Ji he hW))
 have HB:Hid (Below w.heap.size w w):=hid (Below.refl _ _)
 have HZ:=hid hs
 obtain⟨r,hr⟩:=scans_ex s
 obtain⟨x,fe,fp,h1,h2⟩:=out_ex (Jb Zq bigP s r)
 have HT:=hid (fun W (hW:Below w.heap.size w W)=>(Jj s r hr B W (Ji he hW)).mono (h1 W))
 have HRT:=hid (fun W=>(Ke s r hr W).mono (h2 W))
 clear he h1 h2 hr
 obtain⟨d1,d2⟩|hc:(decide ((3000:Int)<(s.size:Int))=true∧decide ((s.size:Int)≤(65536:Int))=true)∨(decide ((3000:Int)<(s.size:Int))=true∧decide ((s.size:Int)≤(65536:Int))=false∨decide ((3000:Int)<(s.size:Int))=false):=by
  cases decide ((3000:Int)<(s.size:Int)) <;> cases decide ((s.size:Int)≤(65536:Int)) <;> simp
 ·go_enter Tryz.func4,Tryz.ntmps4
  go_wp2_with (go_at_call 8;refine(HAW.out _ HB.out).mono ?_;rintro en wa⟨rfl,hb⟩;replace HB:=hid (below_seq HB.out hb);clear hb)
  go_ret
  exact⟨rfl,HB.out⟩
 rcases hc with⟨d1,d2⟩|d1
 all_goals
  go_enter Tryz.func4,Tryz.ntmps4
  go_upto_region 4 with(first|(go_at_call 8;refine(HAW.out _ HB.out).mono ?_;rintro en wa⟨rfl,hb⟩;replace HB:=hid (below_seq HB.out hb);clear hb)|(go_at_call 13;refine(HT.out _ HB.out).mono ?_;rintro en w1⟨la,ln,lc,aa,an,ac,ta,tn,tc,ua,un,uc,ka,kn,kc,rfl,hg,hb⟩;have HG:=hid hg;replace HB:=hid (below_seq HB.out hb);clear hb hg))
  obtain⟨a1,ha1⟩:=exw w1.heap.size
  have htw:=Ja w1 (gP x la ln lc aa an ac ta tn tc ua un uc ka kn kc) #[.int .i64 fe,.int .i64 fp] 31 36
  obtain⟨W1,hW1⟩:=exw ((w1.alloc (.cells (gP x la ln lc aa an ac ta tn tc ua un uc ka kn kc) 31)).alloc (.cells #[.int .i64 fe,.int .i64 fp] 36))
  rw[hW1] at htw ⊢
  have HG1:=hid (HG.out.to_ htw.2.2)
  replace HB:=hid (below_seq HB.out htw.2.2)
  rw[ha1] at htw ⊢
  clear ha1 hW1
  have HX1:=hid htw
  clear htw
  go_upto_region 5 with(go_at_call 14;refine(HRT.out _).mono ?_;rintro en w2⟨la',ln',lc',aa',an',ac',ta',tn',tc',ua',un',uc',ka',kn',kc',rfl,hg,hb⟩;have HG2:=hid hg;have HC2:=hid hb;replace HB:=hid (below_seq HB.out hb);clear hb hg)
  obtain⟨W2,hW2⟩:=exw (w2.alloc (.cells (gP x la' ln' lc' aa' an' ac' ta' tn' tc' ua' un' uc' ka' kn' kc') 31))
  have hb2:=(made hW2).1
  have x2:=(made hW2).2
  rw[hW2]
  replace HB:=hid (below_seq HB.out hb2)
  clear hW2
  have h12:=below_seq HC2.out hb2
  have q1:=(h12.block _ (Array.getElem?_eq_some_iff.1 HX1.out.1).1).trans HX1.out.1
  have q3:=(h12.block _ (Array.getElem?_eq_some_iff.1 HX1.out.2.1).1).trans HX1.out.2.1
  obtain⟨⟨c0,c1,c2,c3,c4,c5,c6,c7,c8,c9,c10,c11⟩,-⟩:=c12p q1
  obtain⟨⟨e0,e1,e2,e3,e4,e5,e6,e7,e8,e9,e10,e11⟩,-⟩:=c12p x2
  have f0:W2.cell? ⟨a1+1,0,none⟩=some (.int .i64 fe):=by simp only[World.cell?,q3];rfl
  have f1:W2.cell? ⟨a1+1,1,none⟩=some (.int .i64 fp):=by simp only[World.cell?,q3];rfl
  have HS:=hid (Vp (fun k=>k<W2.heap.size) x x _ _ W2 (fun _ h=>h) (PrVal.mono (fun _ h=>h.2) (HG1.out.to_ h12)) (PrVal.mono (fun _ h=>h.2) (HG2.out.to_ hb2)))
  rw[eqP_self] at HS
  have HFA:=hid (fun W=>Ud fe fp W)
  have HF0:=hid (fun W (hW:Below W2.heap.size W2 W)=>And.intro ((hW.cell (p:=⟨a1+1,0,none⟩) (gl q3)).trans f0) ((hW.cell (p:=⟨a1+1,1,none⟩) (gl q3)).trans f1))
  clear q1 q3 x2 h12 hb2 f0 f1
  have heq:=fun W a b=>arr2_eq W a b
  go_wp2_with (first|(go_at_call 15;refine HS.out.mono ?_;rintro en w3⟨rfl,hb⟩;obtain⟨f0,f1⟩:=HF0.out _ hb;replace HB:=hid (below_seq HB.out hb);clear hb)|(go_at_call 12;refine(HFA.out _).mono ?_;rintro en w4⟨rfl,hb⟩;replace HB:=hid (below_seq HB.out hb);clear hb))
  go_ret
  exact⟨rfl,HB.out⟩
end Go.Proofs.YtdekhiacejpflaaGreatDoor
namespace Go.Proofs.YtdekhiacejpflaaGreatDoor
open Go.RowKit Go.ChangeShapes Tok
abbrev Zn:List (String×DataW Unit):=Rows.parseTypesRow.laid
theorem Zx{P:Program}{w:World}:∀ {l:List (String×DataW Unit)} {ps:List MemPlace},DataW.LaidVars P w l ps→∀n d,(n,d)∈l→
 ∃g t cs fuel p,P.globalNamed n=some g∧(P.globals[g]?).map (·.type)=some t∧w.var? P n=some cs∧DataW.trod (fun _=>()) P w 0 (fun _=>true) false fuel t cs.toList=some (d,p)
 |[],_,_,_,_,hm=>by cases hm
 |(n',d')::r,ps,h,n,d,hm=>by
  obtain⟨g,t,cs,fuel,p,q,h1,h2,h3,h4,h5,_⟩:=h
  rcases List.mem_cons.1 hm with e|e
  ·cases e
   exact⟨g,t,cs,fuel,p,h1,h2,h3,h4⟩
  ·exact Zx h5 n d e
theorem Xz{H:Type}{enc:TypeId×Value→H}{P:Program}{w:World}{base:Nat}{sp:Nat→Bool}{held:Bool}{fuel:Nat}{t:TypeId}{ms:Array (String×TypeId)}{cs:List Value}{nm:String}{d:DataW H}{p:List MemPlace}
 (ht:P.underlying t=some (.interface ms)) (h:DataW.trod enc P w base sp held fuel t cs=some (.iface nm d,p)):∃u v,cs=[.iface u v]:=by
 cases fuel with
 |zero=>simp[DataW.trod] at h
 |succ fuel=>
  unfold DataW.trod at h
  rw[ht] at h
  split at h <;> first|(rename_i heq;cases heq;done)|skip
  all_goals (first|(cases h;done)|exact⟨_,_,rfl⟩|skip)
theorem Uw{H:Type}{enc:TypeId×Value→H}{P:Program}{w:World}{base:Nat}{sp:Nat→Bool}{held:Bool}{fuel:Nat}{t e:TypeId}{n:Nat}{cs:List Value}{ls:List (List UInt8)}{p:List MemPlace}
 (ht:P.underlying t=some (.array n e)) (he:P.underlying e=some .string) (hce:P.cellsOf e=1) (hct:P.cellsOf t=n)
 (h:DataW.trod enc P w base sp held fuel t cs=some (.agg (ls.map fun l=> .lit (.string l)),p)):cs=ls.map fun l=>Value.string ⟨l.toArray⟩:=by
 obtain⟨xs,m,_,hx,hlen,hxl,hat⟩:=DataW.trod_array ht h
 have hxs:xs.map (·.1)=ls.map fun l=>(DataW.lit (.string l):DataW H):=by
  have:=congrArg Prod.fst hx
  simpa using this.symm
 have hll:ls.length=n:=by
  have:=congrArg List.length hxs
  simp at this;omega
 apply List.ext_getElem?
 intro i
 by_cases hi:i<n
 ·have hf:=hat i hi
  rw[hce,Nat.mul_one] at hf
  obtain⟨x,hxi⟩:∃x,xs[i]? =some x:=⟨_,List.getElem?_eq_getElem (by omega)⟩
  rw[hxi] at hf
  obtain⟨s,hc,rfl,_⟩:=DataW.trod_string he hf
  have h1:cs[i]? =some (.string s):=by
   have:=congrArg (·[0]?) hc
   simpa [List.getElem?_take,List.getElem?_drop] using this
  have h2:(xs.map (·.1))[i]? =some (DataW.lit (.string s.data.toList):DataW H):=by simp[hxi]
  rw[hxs] at h2
  simp only[List.getElem?_map,Option.map_eq_some_iff,DataW.lit.injEq,Lit.string.injEq] at h2
  obtain⟨l,hl,hls⟩:=h2
  rw[h1,List.getElem?_map,hl,hls]
  rfl
 ·rw[List.getElem?_eq_none (by omega),List.getElem?_eq_none (by simp;omega)]
theorem rangeType:(Tryz.prog.globals[3]?).map (·.type)=some 177:=by kernel_rfl
theorem wordsType:(Tryz.prog.globals[0]?).map (·.type)=some 180:=by kernel_rfl
theorem cellsStr:Tryz.prog.cellsOf 9=1:=by kernel_rfl
theorem Uk:Tryz.prog.cellsOf 180=10:=by kernel_rfl
theorem errIface:∃ms,Tryz.prog.underlying 177=some (.interface ms):=⟨_,Tryz.underlying177⟩
theorem Va{W:World}(h:laidMetH Tryz.prog Zn W):Tok.Env W.heap.size W:=by
 rw[MakeChecks.laidMetH_plain _ _ _ (by kernel_rfl)] at h
 obtain⟨ps,hv,_⟩:=h
 obtain⟨g,t,cs,fuel,p,hg,ht,hvar,hd⟩:=Zx hv "strconv.ErrRange" Rows.laid_strconv_ErrRange (by simp[Zn,Rows.parseTypesRow])
 obtain rfl:=Option.some.inj (gRange.symm.trans hg)
 obtain rfl:=Option.some.inj (rangeType.symm.trans ht)
 obtain⟨ms,hms⟩:=errIface
 obtain⟨u,v,hcs⟩:=Xz hms hd
 obtain⟨g',t',cs',fuel',p',hg',ht',hvar',hd'⟩:=Zx hv "duologue/lex.keywords" Rows.laid_duologue_lex_keywords (by simp[Zn,Rows.parseTypesRow])
 obtain rfl:=Option.some.inj (gWords.symm.trans hg')
 obtain rfl:=Option.some.inj (wordsType.symm.trans ht')
 have hws:=Uw (ls:=[[100,101,102],[109,97,105,110],[115,116,111,112],[110,101,119],[105,110,116],[98,111,111,108],[101,110,100],[114,101,99],[116,114,117,101],[102,97,108,115,101]]) kwU Tryz.underlying9 cellsStr Uk hd'
 have lt:∀ {n:String} {g:Nat} {cs:Array Value},Tryz.prog.globalNamed n=some g→W.var? Tryz.prog n=some cs→g<W.heap.size:=by
  intro n g cs hg hv
  unfold World.var? at hv
  simp only[hg,Option.bind_some] at hv
  rcases Nat.lt_or_ge g W.heap.size with h'|h'
  ·exact h'
  ·rw[Array.getElem?_eq_none h'] at hv;cases hv
 refine⟨⟨u,v,?_⟩,?_,⟨lt gRange hvar,lt gWords hvar'⟩,Nat.le_refl _⟩
 ·rw[hvar];obtain⟨l⟩:=cs;simp at hcs;rw[hcs]
 ·rw[hvar'];obtain⟨l⟩:=cs';simp only at hws;rw[hws];rfl
theorem door_met(os:Os)(args:Array Value):laidMetH Tryz.prog Zn ((World.doorLaid Tryz.prog 4000 os).forCall (fun _ _=>0) ⟨#[],args,[]⟩).memory:=
 laidMetH_of_parts3 (fuel:=10) (laidMet_of_run' 10 (by kernel_rfl) (by kernel_rfl)) (by kernel_rfl) (by kernel_rfl)
end Go.Proofs.YtdekhiacejpflaaGreatDoor
