/- Parsing: labels in braces, and what stands behind each of them. (and what follows from it) -/
import Derived.Test.YtmnbheplkidfaaaGreatDoorPw6
set_option maxHeartbeats 16000000
set_option maxRecDepth 100000
namespace Go.Proofs.YtmnbheplkidfaaaGreatDoor
open Go.Lib (hid)
open Go.RowKit Go.Deep Go.Shelf
theorem MR{α:Type}{S:List Tk->PR α}(hS:Qr S):Qr (QX Qb S):=by
 intro ts x r h
 unfold QX at h
 cases h1:Qk Qb ts with
 |bad e r1=>rw[h1] at h;cases h
 |ok nm r1=>
  rw[h1] at h
  have l1:=QJ h1
  replace h:((need QB r1).bind fun _ r=>(S r).bind fun x r=> .ok (nm,x) r)= .ok x r:=h
  cases h2:need QB r1 with
  |bad e r2=>rw[h2] at h;cases h
  |ok u r2=>
   rw[h2] at h
   have l2:=Qp h2
   replace h:((S r2).bind fun x r=> .ok (nm,x) r)= .ok x r:=h
   cases h3:S r2 with
   |bad e r3=>rw[h3] at h;cases h
   |ok t r3=>
    rw[h3] at h
    have l3:=hS _ _ _ h3
    cases h
    omega
theorem MQ{α:Type}{F:List Tk->PR α}(hF:Qr F):∀g,Qr (QP F g)
 |0,ts,x,r,h=>by cases h
 |g+1,ts,x,r,h=>by
  rw[QP] at h
  cases h1:F ts with
  |bad e r1=>rw[h1] at h;cases h
  |ok y r1=>
   rw[h1] at h
   have l1:=hF _ _ _ h1
   replace h:(if hd QG r1=true then (QP F g r1.tail).bind fun l r=>PR.ok (y::l) r else .ok [y] r1)= .ok x r:=h
   split at h
   ·next hc=>
    have l2:=QH hc
    cases h2:QP F g r1.tail with
    |bad e r2=>rw[h2] at h;cases h
    |ok l r2=>
     rw[h2] at h
     have l3:=MQ hF g _ _ _ h2
     cases h
     omega
   ·cases h;exact l1
theorem UW{α:Type}{S:List Tk->PR α}(hS:Qr S)(g:Nat):Qr (Ys Qb S g):=by
 intro ts x r h
 unfold Ys at h
 cases h1:need sBra ts with
 |bad e r1=>rw[h1] at h;cases h
 |ok u r1=>
  rw[h1] at h
  have l1:=Qp h1
  replace h:((QP (QX Qb S) g r1).bind fun l r=>(need sKet r).bind fun _ r=> .ok l r)= .ok x r:=h
  cases h2:QP (QX Qb S) g r1 with
  |bad e r2=>rw[h2] at h;cases h
  |ok l r2=>
   rw[h2] at h
   have l2:=MQ (MR hS) g _ _ _ h2
   replace h:((need sKet r2).bind fun _ r=> .ok l r)= .ok x r:=h
   cases h3:need sKet r2 with
   |bad e r3=>rw[h3] at h;cases h
   |ok u3 r3=>
    rw[h3] at h
    have l3:=Qp h3
    cases h
    omega
theorem XW{α:Type}{F:List Tk->PR α}(hF:Qr F):∀g (ts:List Tk) (x:List α) (r:List Tk),QP F g ts= .ok x r->x.length+r.length<=ts.length
 |0,ts,x,r,h=>by cases h
 |g+1,ts,x,r,h=>by
  rw[QP] at h
  cases h1:F ts with
  |bad e r1=>rw[h1] at h;cases h
  |ok y r1=>
   rw[h1] at h
   have l1:=hF _ _ _ h1
   replace h:(if hd QG r1=true then (QP F g r1.tail).bind fun l r=>PR.ok (y::l) r else .ok [y] r1)= .ok x r:=h
   split at h
   ·next hc=>
    have l2:=QH hc
    cases h2:QP F g r1.tail with
    |bad e r2=>rw[h2] at h;cases h
    |ok l r2=>
     rw[h2] at h
     have l3:=XW hF g _ _ _ h2
     cases h
     simp only[List.length_cons];omega
   ·cases h;simp;omega
def SS(b:Nat)(w:World)(l:List (ByteArray×Ty))(v:Value):Prop:=∃lv kv,v= .tuple #[lv,kv]/\StrSl (fun k=>b<=k/\k<w.heap.size) w lv (l.map (·.1))/\TySl (fun k=>b<=k/\k<w.heap.size) w kv (l.map (·.2))
theorem Ky:∀args w,(callFunc 145 args).run Tryz.prog w= .ok (.enter 145 args) w:=enters_of Tryz.func145 (by kernel_rfl) rfl
theorem GB(P tb:Nat)(E:Int)(ts:List Tk)(B:Nat)(w:World)(he:Env B w)(hBP:B<=P)(h:PaIs P tb E ts w)(fr:Nat)(bs cs:Array Value)(eg:∀args w,(callFunc fr args).run Tryz.prog w= .ok (.enter fr args) w)
 (S:List Tk->PR Ty) (n:Nat) (hn:ts.length<n) (hS:∀(ts:List Tk) (W:World),ts.length<n->Env B W->PaIs P tb E ts W->Calls Tryz.prog fr (bs++cs) W (Parsed P tb E W (S ts) (GTy W.heap.size))) (hSh:Qr S) (g:Nat) (hg:ts.length<=g):
 Calls Tryz.prog 122 #[.pointer (some ⟨P,0,none⟩),.func (.func fr) bs cs] w (Parsed P tb E w (Ys Qb S g ts) (SS w.heap.size)):=by
 obtain⟨W3,hW3⟩:∃W3,((w.alloc (.cells #[.pointer (some ⟨P,0,none⟩)] 67)).alloc (.cells #[.func (.func fr) bs cs] 85)).alloc (.cells #[.slice none 0 0] 24)=W3:=⟨_,rfl⟩
 have hb03:Below w.heap.size w W3:=by rw[<-hW3];exact((bR.alloc lR _).alloc (by rw[World.size_alloc];omega) _).alloc (by rw[World.size_alloc,World.size_alloc];omega) _
 have hz3:W3.heap.size=w.heap.size+3:=by rw[<-hW3];simp
 have x1:W3.heap[w.heap.size]? =some (.cells #[.pointer (some ⟨P,0,none⟩)] 67 (0,0)):=by rw[<-hW3,Below.heap_alloc _ _ _ (by simp;omega),Below.heap_alloc _ _ _ (by simp)];exact World.alloc_heap_new _ _
 have x2:W3.heap[w.heap.size+1]? =some (.cells #[.func (.func fr) bs cs] 85 (0,0)):=by
  rw[<-hW3,Below.heap_alloc _ _ _ (by simp)]
  have:=World.alloc_heap_new (w.alloc (.cells #[.pointer (some ⟨P,0,none⟩)] 67)) (.cells #[.func (.func fr) bs cs] 85)
  rwa[World.size_alloc] at this
 have x3:W3.heap[w.heap.size+2]? =some (.cells #[.slice none 0 0] 24 (0,0)):=by
  rw[<-hW3]
  have:=World.alloc_heap_new ((w.alloc (.cells #[.pointer (some ⟨P,0,none⟩)] 67)).alloc (.cells #[.func (.func fr) bs cs] 85)) (.cells #[.slice none 0 0] 24)
  rwa[World.size_alloc,World.size_alloc] at this
 have hP:P<w.heap.size:=h.lt
 have htl:tb<w.heap.size:=h.tlt
 have hlen:ts.length<=1000000:=h.choose_spec.choose_spec.2.2.2.2.1
 have HNT:Hid (Noted (XC (α:=Ty) P w.heap.size (w.heap.size+1) (w.heap.size+2) (w.heap.size+3) 85 (.func (.func fr) bs cs)) (Jf w.heap.size (w.heap.size+1) (w.heap.size+2)) P):=hid (ZA (by omega) (by omega) (by omega) (by omega))
 have HST3:Hid (XC (α:=Ty) P w.heap.size (w.heap.size+1) (w.heap.size+2) (w.heap.size+3) 85 (.func (.func fr) bs cs) [] W3):=hid ⟨by omega,x1,x2,none,0,0,x3,GRow.nil _ _ _ _,fun x hx=>by cases hx⟩
 have HEL:Hid (XG P tb E B 145 #[] #[.pointer (some ⟨w.heap.size+2,0,none⟩),.pointer (some ⟨w.heap.size,0,none⟩),.pointer (some ⟨w.heap.size+1,0,none⟩)] (QX Qb S) (fun x=>x.2) (fun B w v t=>TyVal B w v t) (XC (α:=Ty) P w.heap.size (w.heap.size+1) (w.heap.size+2) (w.heap.size+3) 85 (.func (.func fr) bs cs)) (Jf w.heap.size (w.heap.size+1) (w.heap.size+2)) n):=hid (fun xs ts W h1 h2 h3 h4 h5=>Wm P tb E B hBP w.heap.size (w.heap.size+1) (w.heap.size+2) (w.heap.size+3) 85 (by omega) (by omega) (by omega) (by omega) (by omega) (by omega) (by omega) (by omega) fr bs cs eg _ rfl S n hS xs ts W h1 h2 h3 h4 h5 |>.mono (fun e w' hq=>by
  dsimp only
  unfold YO at hq
  cases hc:QX Qb S ts with
  |ok x r=>rw[hc] at hq;exact hq
  |bad er r=>rw[hc] at hq;exact hq))
 have HSH:=hid (MR hSh)
 have hcl3:=Qu x3
 have HOW:Hid (∀k,Jf w.heap.size (w.heap.size+1) (w.heap.size+2) W3 k->w.heap.size<=k):=hid (fun k hk=>by
  have:=(Vv hcl3 k HST3.out).1 hk
  rcases this with h|h|h|h
  ·omega
  ·omega
  ·omega
  ·cases h)
 have HOB:Hid (∀k,Jf w.heap.size (w.heap.size+1) (w.heap.size+2) W3 k->B<=k):=hid (fun k hk=>by have:=HOW.out k hk;omega)
 have HP3:=hid (h.to hb03)
 have HE:=hid (he.to hb03)
 have HW3:=hid hW3
 have HB03:=hid hb03
 have HZ3:=hid hz3
 have HSHS:=hid hSh
 have en1:=Ky
 have cP3:=Qu x1
 clear hW3 hb03 x1 x2 x3 he h hS hSh hcl3
 have BW:∀w4 w5:World,But P W3 w4->ButO P (Jf w.heap.size (w.heap.size+1) (w.heap.size+2) w4) w4 w5->But P w w5:=fun w4 w5 h4 h5=>
  ((But.of (P:=P) HB03.out).trans (But.refl P W3)).o (fun _=>False) |>.trans ((h4.o (Jf w.heap.size (w.heap.size+1) (w.heap.size+2) W3)).trans h5 (fun k hk=> .inl (((HNT.out.but HST3.out h4).2 k).1 hk))) (fun k hk=> .inr (HOW.out k hk)) |>.but (fun _ _ h=>h)
 have HBW:=hid BW
 clear BW
 unfold Ys
 cases h1:need sBra ts with
 |bad er r=>
  show Calls _ _ _ _ (Parsed P tb E w (PR.bad er r) _)
  go_enter Tryz.func122,Tryz.ntmps122
  go_upto_region 2 with fail
  rw[HW3.out]
  go_wp2_with (go_at_call 52;refine(Qv P tb E _ (by decide+kernel) _ _ HP3.out).mono ?_;rw[h1];rintro en w4⟨rfl,hb⟩;have HB4:=hid hb;clear hb)
  exact⟨rfl,rfl,(But.of HB03.out).trans HB4.out⟩
 |ok un r1=>
  have l1:=Qp h1
  have hl1:r1.length<n:=by omega
  have hg1:r1.length<g:=by omega
  show Calls _ _ _ _ (Parsed P tb E w ((QP (QX Qb S) g r1).bind fun l r=>(need sKet r).bind fun _ r=> .ok l r) _)
  cases h2:QP (QX Qb S) g r1 with
  |bad er r=>
   show Calls _ _ _ _ (Parsed P tb E w (PR.bad er r) _)
   go_enter Tryz.func122,Tryz.ntmps122
   go_upto_region 2 with fail
   rw[HW3.out]
   go_wp2_with (first|(go_at_call 52;refine(Qv P tb E _ (by decide+kernel) _ _ HP3.out).mono ?_;rw[h1];rintro en w4⟨⟨_,rfl,_⟩,hp,hb⟩;have HP4:=hid hp;have HB4:=hid hb;have cP4:=Qu (HNT.out.but HST3.out hb).1.2.1;clear hp hb)|(go_at_call 144;refine(VU P tb E _ B w4 (HE.out.but HB4.out hBP) hBP HP4.out 145 #[] #[.pointer (some ⟨w.heap.size+2,0,none⟩),.pointer (some ⟨w.heap.size,0,none⟩),.pointer (some ⟨w.heap.size+1,0,none⟩)] en1 (QX Qb S) (fun x=>x.2) _ _ n hl1 HEL.out HNT.out HSH.out g hg1 (HNT.out.but HST3.out HB4.out).1 (fun k hk=>HOB.out k ((HNT.out.but HST3.out HB4.out).2 k |>.1 hk))).mono ?_;rw[h2];rintro en w5⟨rfl,hb⟩;have HB5:=hid hb;clear hb))
   exact⟨rfl,rfl,HBW.out _ _ HB4.out HB5.out⟩
  |ok l r2=>
   have hll:=XW HSH.out g _ _ _ h2
   show Calls _ _ _ _ (Parsed P tb E w ((need sKet r2).bind fun _ r=> .ok l r) _)
   cases h3:need sKet r2 with
   |bad er r=>
    show Calls _ _ _ _ (Parsed P tb E w (PR.bad er r) _)
    go_enter Tryz.func122,Tryz.ntmps122
    go_upto_region 2 with fail
    rw[HW3.out]
    go_wp2_with (first|(go_at_call 52;refine(Qv P tb E _ (by decide+kernel) _ _ HP3.out).mono ?_;rw[h1];rintro en w4⟨⟨_,rfl,_⟩,hp,hb⟩;have HP4:=hid hp;have HB4:=hid hb;have cP4:=Qu (HNT.out.but HST3.out hb).1.2.1;clear hp hb)|(go_at_call 144;refine(VU P tb E _ B w4 (HE.out.but HB4.out hBP) hBP HP4.out 145 #[] #[.pointer (some ⟨w.heap.size+2,0,none⟩),.pointer (some ⟨w.heap.size,0,none⟩),.pointer (some ⟨w.heap.size+1,0,none⟩)] en1 (QX Qb S) (fun x=>x.2) _ _ n hl1 HEL.out HNT.out HSH.out g hg1 (HNT.out.but HST3.out HB4.out).1 (fun k hk=>HOB.out k ((HNT.out.but HST3.out HB4.out).2 k |>.1 hk))).mono ?_;rw[h2];rintro en w5⟨⟨kv,rfl,hkv⟩,hp,hst,hb,ho⟩;have HK5:=hid hkv;have HP5:=hid hp;have HST5:=hid hst;have HB5:=hid hb;have cP5:=Qu hst.2.1;clear hkv hp hst hb ho)|(go_at_call 52;refine(Qv P tb E _ (by decide+kernel) _ _ HP5.out).mono ?_;rw[h3];rintro en w6⟨rfl,hb⟩;have HB6:=hid hb;clear hb))
    exact⟨rfl,rfl,(HBW.out _ _ HB4.out HB5.out).trans HB6.out⟩
   |ok un3 r3=>
    show Calls _ _ _ _ (Parsed P tb E w (PR.ok l r3) _)
    go_enter Tryz.func122,Tryz.ntmps122
    go_upto_region 2 with fail
    rw[HW3.out]
    go_wp2_with (first|(go_at_call 52;refine(Qv P tb E _ (by decide+kernel) _ _ HP3.out).mono ?_;rw[h1];rintro en w4⟨⟨_,rfl,_⟩,hp,hb⟩;have HP4:=hid hp;have HB4:=hid hb;have cP4:=Qu (HNT.out.but HST3.out hb).1.2.1;clear hp hb)|(go_at_call 144;refine(VU P tb E _ B w4 (HE.out.but HB4.out hBP) hBP HP4.out 145 #[] #[.pointer (some ⟨w.heap.size+2,0,none⟩),.pointer (some ⟨w.heap.size,0,none⟩),.pointer (some ⟨w.heap.size+1,0,none⟩)] en1 (QX Qb S) (fun x=>x.2) _ _ n hl1 HEL.out HNT.out HSH.out g hg1 (HNT.out.but HST3.out HB4.out).1 (fun k hk=>HOB.out k ((HNT.out.but HST3.out HB4.out).2 k |>.1 hk))).mono ?_;rw[h2];rintro en w5⟨⟨kv,rfl,hkv⟩,hp,hst,hb,ho⟩;have HK5:=hid hkv;have HP5:=hid hp;have HST5:=hid hst;have HB5:=hid hb;have cP5:=Qu hst.2.1;clear hkv hp hst hb ho)|(go_at_call 52;refine(Qv P tb E _ (by decide+kernel) _ _ HP5.out).mono ?_;rw[h3];rintro en w6⟨⟨_,rfl,_⟩,hp,hb⟩;have HP6:=hid hp;have HB6:=hid hb;clear hp hb;obtain⟨_,_,_,la,ln,lc,xL6,hrow6,hsz6⟩:=(HNT.out.but HST5.out HB6.out).1;have cL6:=Qu xL6;have HROW6:=hid hrow6;have HSZ6:=hid hsz6;clear xL6 hrow6 hsz6))
    go_ret2
    refine⟨⟨_,rfl,_,_,rfl,?_,?_⟩,HP6.out,(HBW.out _ _ HB4.out HB5.out).trans HB6.out⟩
    ·refine StrSl.mono (fun k hk=>⟨by omega,hk.2.1⟩) (GRow.texts HROW6.out (by rw[List.length_map];unfold maxLen;omega) (fun s hs=>?_))
     obtain⟨x,hx,rfl⟩:=List.mem_map.1 hs
     exact HSZ6.out x hx
    ·have hz4:=HB4.out.size
     have hz5:=HB6.out.size
     exact TySl.mono (fun k hk=>⟨by have:=HZ3.out;omega,by omega⟩) (TySl.keep (HB6.out.keeps (fun k hk=>⟨hk.2.1,by have:=HZ3.out;omega⟩)) HK5.out)
def ST(b:Nat)(w:World)(l:List (ByteArray×Pr))(v:Value):Prop:=∃lv kv,v= .tuple #[lv,kv]/\StrSl (fun k=>b<=k/\k<w.heap.size) w lv (l.map (·.1))/\PrSl (fun k=>b<=k/\k<w.heap.size) w kv (l.map (·.2))
theorem Kz:∀args w,(callFunc 152 args).run Tryz.prog w= .ok (.enter 152 args) w:=enters_of Tryz.func152 (by kernel_rfl) rfl
theorem GE(P tb:Nat)(E:Int)(ts:List Tk)(B:Nat)(w:World)(he:Env B w)(hBP:B<=P)(h:PaIs P tb E ts w)(fr:Nat)(bs cs:Array Value)(eg:∀args w,(callFunc fr args).run Tryz.prog w= .ok (.enter fr args) w)
 (S:List Tk->PR Pr) (n:Nat) (hn:ts.length<n) (hS:∀(ts:List Tk) (W:World),ts.length<n->Env B W->PaIs P tb E ts W->Calls Tryz.prog fr (bs++cs) W (Parsed P tb E W (S ts) (GPr W.heap.size))) (hSh:Qr S) (g:Nat) (hg:ts.length<=g):
 Calls Tryz.prog 140 #[.pointer (some ⟨P,0,none⟩),.func (.func fr) bs cs] w (Parsed P tb E w (Ys Qb S g ts) (ST w.heap.size)):=by
 obtain⟨W3,hW3⟩:∃W3,((w.alloc (.cells #[.pointer (some ⟨P,0,none⟩)] 67)).alloc (.cells #[.func (.func fr) bs cs] 77)).alloc (.cells #[.slice none 0 0] 24)=W3:=⟨_,rfl⟩
 have hb03:Below w.heap.size w W3:=by rw[<-hW3];exact((bR.alloc lR _).alloc (by rw[World.size_alloc];omega) _).alloc (by rw[World.size_alloc,World.size_alloc];omega) _
 have hz3:W3.heap.size=w.heap.size+3:=by rw[<-hW3];simp
 have x1:W3.heap[w.heap.size]? =some (.cells #[.pointer (some ⟨P,0,none⟩)] 67 (0,0)):=by rw[<-hW3,Below.heap_alloc _ _ _ (by simp;omega),Below.heap_alloc _ _ _ (by simp)];exact World.alloc_heap_new _ _
 have x2:W3.heap[w.heap.size+1]? =some (.cells #[.func (.func fr) bs cs] 77 (0,0)):=by
  rw[<-hW3,Below.heap_alloc _ _ _ (by simp)]
  have:=World.alloc_heap_new (w.alloc (.cells #[.pointer (some ⟨P,0,none⟩)] 67)) (.cells #[.func (.func fr) bs cs] 77)
  rwa[World.size_alloc] at this
 have x3:W3.heap[w.heap.size+2]? =some (.cells #[.slice none 0 0] 24 (0,0)):=by
  rw[<-hW3]
  have:=World.alloc_heap_new ((w.alloc (.cells #[.pointer (some ⟨P,0,none⟩)] 67)).alloc (.cells #[.func (.func fr) bs cs] 77)) (.cells #[.slice none 0 0] 24)
  rwa[World.size_alloc,World.size_alloc] at this
 have hP:P<w.heap.size:=h.lt
 have htl:tb<w.heap.size:=h.tlt
 have hlen:ts.length<=1000000:=h.choose_spec.choose_spec.2.2.2.2.1
 have HNT:Hid (Noted (XC (α:=Pr) P w.heap.size (w.heap.size+1) (w.heap.size+2) (w.heap.size+3) 77 (.func (.func fr) bs cs)) (Jf w.heap.size (w.heap.size+1) (w.heap.size+2)) P):=hid (ZA (by omega) (by omega) (by omega) (by omega))
 have HST3:Hid (XC (α:=Pr) P w.heap.size (w.heap.size+1) (w.heap.size+2) (w.heap.size+3) 77 (.func (.func fr) bs cs) [] W3):=hid ⟨by omega,x1,x2,none,0,0,x3,GRow.nil _ _ _ _,fun x hx=>by cases hx⟩
 have HEL:Hid (XG P tb E B 152 #[] #[.pointer (some ⟨w.heap.size+2,0,none⟩),.pointer (some ⟨w.heap.size,0,none⟩),.pointer (some ⟨w.heap.size+1,0,none⟩)] (QX Qb S) (fun x=>x.2) (fun B w v p=>PrVal B w v p) (XC (α:=Pr) P w.heap.size (w.heap.size+1) (w.heap.size+2) (w.heap.size+3) 77 (.func (.func fr) bs cs)) (Jf w.heap.size (w.heap.size+1) (w.heap.size+2)) n):=hid (fun xs ts W h1 h2 h3 h4 h5=>Wn P tb E B hBP w.heap.size (w.heap.size+1) (w.heap.size+2) (w.heap.size+3) 77 (by omega) (by omega) (by omega) (by omega) (by omega) (by omega) (by omega) (by omega) fr bs cs eg _ rfl S n hS xs ts W h1 h2 h3 h4 h5 |>.mono (fun e w' hq=>by
  dsimp only
  unfold YP at hq
  cases hc:QX Qb S ts with
  |ok x r=>rw[hc] at hq;exact hq
  |bad er r=>rw[hc] at hq;exact hq))
 have HSH:=hid (MR hSh)
 have hcl3:=Qu x3
 have HOW:Hid (∀k,Jf w.heap.size (w.heap.size+1) (w.heap.size+2) W3 k->w.heap.size<=k):=hid (fun k hk=>by
  have:=(Vv hcl3 k HST3.out).1 hk
  rcases this with h|h|h|h
  ·omega
  ·omega
  ·omega
  ·cases h)
 have HOB:Hid (∀k,Jf w.heap.size (w.heap.size+1) (w.heap.size+2) W3 k->B<=k):=hid (fun k hk=>by have:=HOW.out k hk;omega)
 have HP3:=hid (h.to hb03)
 have HE:=hid (he.to hb03)
 have HW3:=hid hW3
 have HB03:=hid hb03
 have HZ3:=hid hz3
 have HSHS:=hid hSh
 have en1:=Kz
 have cP3:=Qu x1
 clear hW3 hb03 x1 x2 x3 he h hS hSh hcl3
 have BW:∀w4 w5:World,But P W3 w4->ButO P (Jf w.heap.size (w.heap.size+1) (w.heap.size+2) w4) w4 w5->But P w w5:=fun w4 w5 h4 h5=>
  ((But.of (P:=P) HB03.out).trans (But.refl P W3)).o (fun _=>False) |>.trans ((h4.o (Jf w.heap.size (w.heap.size+1) (w.heap.size+2) W3)).trans h5 (fun k hk=> .inl (((HNT.out.but HST3.out h4).2 k).1 hk))) (fun k hk=> .inr (HOW.out k hk)) |>.but (fun _ _ h=>h)
 have HBW:=hid BW
 clear BW
 unfold Ys
 cases h1:need sBra ts with
 |bad er r=>
  show Calls _ _ _ _ (Parsed P tb E w (PR.bad er r) _)
  go_enter Tryz.func140,Tryz.ntmps140
  go_upto_region 2 with fail
  rw[HW3.out]
  go_wp2_with (go_at_call 52;refine(Qv P tb E _ (by decide+kernel) _ _ HP3.out).mono ?_;rw[h1];rintro en w4⟨rfl,hb⟩;have HB4:=hid hb;clear hb)
  exact⟨rfl,rfl,(But.of HB03.out).trans HB4.out⟩
 |ok un r1=>
  have l1:=Qp h1
  have hl1:r1.length<n:=by omega
  have hg1:r1.length<g:=by omega
  show Calls _ _ _ _ (Parsed P tb E w ((QP (QX Qb S) g r1).bind fun l r=>(need sKet r).bind fun _ r=> .ok l r) _)
  cases h2:QP (QX Qb S) g r1 with
  |bad er r=>
   show Calls _ _ _ _ (Parsed P tb E w (PR.bad er r) _)
   go_enter Tryz.func140,Tryz.ntmps140
   go_upto_region 2 with fail
   rw[HW3.out]
   go_wp2_with (first|(go_at_call 52;refine(Qv P tb E _ (by decide+kernel) _ _ HP3.out).mono ?_;rw[h1];rintro en w4⟨⟨_,rfl,_⟩,hp,hb⟩;have HP4:=hid hp;have HB4:=hid hb;have cP4:=Qu (HNT.out.but HST3.out hb).1.2.1;clear hp hb)|(go_at_call 151;refine(VV P tb E _ B w4 (HE.out.but HB4.out hBP) hBP HP4.out 152 #[] #[.pointer (some ⟨w.heap.size+2,0,none⟩),.pointer (some ⟨w.heap.size,0,none⟩),.pointer (some ⟨w.heap.size+1,0,none⟩)] en1 (QX Qb S) (fun x=>x.2) _ _ n hl1 HEL.out HNT.out HSH.out g hg1 (HNT.out.but HST3.out HB4.out).1 (fun k hk=>HOB.out k ((HNT.out.but HST3.out HB4.out).2 k |>.1 hk))).mono ?_;rw[h2];rintro en w5⟨rfl,hb⟩;have HB5:=hid hb;clear hb))
   exact⟨rfl,rfl,HBW.out _ _ HB4.out HB5.out⟩
  |ok l r2=>
   have hll:=XW HSH.out g _ _ _ h2
   show Calls _ _ _ _ (Parsed P tb E w ((need sKet r2).bind fun _ r=> .ok l r) _)
   cases h3:need sKet r2 with
   |bad er r=>
    show Calls _ _ _ _ (Parsed P tb E w (PR.bad er r) _)
    go_enter Tryz.func140,Tryz.ntmps140
    go_upto_region 2 with fail
    rw[HW3.out]
    go_wp2_with (first|(go_at_call 52;refine(Qv P tb E _ (by decide+kernel) _ _ HP3.out).mono ?_;rw[h1];rintro en w4⟨⟨_,rfl,_⟩,hp,hb⟩;have HP4:=hid hp;have HB4:=hid hb;have cP4:=Qu (HNT.out.but HST3.out hb).1.2.1;clear hp hb)|(go_at_call 151;refine(VV P tb E _ B w4 (HE.out.but HB4.out hBP) hBP HP4.out 152 #[] #[.pointer (some ⟨w.heap.size+2,0,none⟩),.pointer (some ⟨w.heap.size,0,none⟩),.pointer (some ⟨w.heap.size+1,0,none⟩)] en1 (QX Qb S) (fun x=>x.2) _ _ n hl1 HEL.out HNT.out HSH.out g hg1 (HNT.out.but HST3.out HB4.out).1 (fun k hk=>HOB.out k ((HNT.out.but HST3.out HB4.out).2 k |>.1 hk))).mono ?_;rw[h2];rintro en w5⟨⟨kv,rfl,hkv⟩,hp,hst,hb,ho⟩;have HK5:=hid hkv;have HP5:=hid hp;have HST5:=hid hst;have HB5:=hid hb;have cP5:=Qu hst.2.1;clear hkv hp hst hb ho)|(go_at_call 52;refine(Qv P tb E _ (by decide+kernel) _ _ HP5.out).mono ?_;rw[h3];rintro en w6⟨rfl,hb⟩;have HB6:=hid hb;clear hb))
    exact⟨rfl,rfl,(HBW.out _ _ HB4.out HB5.out).trans HB6.out⟩
   |ok un3 r3=>
    show Calls _ _ _ _ (Parsed P tb E w (PR.ok l r3) _)
    go_enter Tryz.func140,Tryz.ntmps140
    go_upto_region 2 with fail
    rw[HW3.out]
    go_wp2_with (first|(go_at_call 52;refine(Qv P tb E _ (by decide+kernel) _ _ HP3.out).mono ?_;rw[h1];rintro en w4⟨⟨_,rfl,_⟩,hp,hb⟩;have HP4:=hid hp;have HB4:=hid hb;have cP4:=Qu (HNT.out.but HST3.out hb).1.2.1;clear hp hb)|(go_at_call 151;refine(VV P tb E _ B w4 (HE.out.but HB4.out hBP) hBP HP4.out 152 #[] #[.pointer (some ⟨w.heap.size+2,0,none⟩),.pointer (some ⟨w.heap.size,0,none⟩),.pointer (some ⟨w.heap.size+1,0,none⟩)] en1 (QX Qb S) (fun x=>x.2) _ _ n hl1 HEL.out HNT.out HSH.out g hg1 (HNT.out.but HST3.out HB4.out).1 (fun k hk=>HOB.out k ((HNT.out.but HST3.out HB4.out).2 k |>.1 hk))).mono ?_;rw[h2];rintro en w5⟨⟨kv,rfl,hkv⟩,hp,hst,hb,ho⟩;have HK5:=hid hkv;have HP5:=hid hp;have HST5:=hid hst;have HB5:=hid hb;have cP5:=Qu hst.2.1;clear hkv hp hst hb ho)|(go_at_call 52;refine(Qv P tb E _ (by decide+kernel) _ _ HP5.out).mono ?_;rw[h3];rintro en w6⟨⟨_,rfl,_⟩,hp,hb⟩;have HP6:=hid hp;have HB6:=hid hb;clear hp hb;obtain⟨_,_,_,la,ln,lc,xL6,hrow6,hsz6⟩:=(HNT.out.but HST5.out HB6.out).1;have cL6:=Qu xL6;have HROW6:=hid hrow6;have HSZ6:=hid hsz6;clear xL6 hrow6 hsz6))
    go_ret2
    refine⟨⟨_,rfl,_,_,rfl,?_,?_⟩,HP6.out,(HBW.out _ _ HB4.out HB5.out).trans HB6.out⟩
    ·refine StrSl.mono (fun k hk=>⟨by omega,hk.2.1⟩) (GRow.texts HROW6.out (by rw[List.length_map];unfold maxLen;omega) (fun s hs=>?_))
     obtain⟨x,hx,rfl⟩:=List.mem_map.1 hs
     exact HSZ6.out x hx
    ·have hz4:=HB4.out.size
     have hz5:=HB6.out.size
     exact PrSl.mono (fun k hk=>⟨by have:=HZ3.out;omega,by omega⟩) (PrSl.keep (HB6.out.keeps (fun k hk=>⟨hk.2.1,by have:=HZ3.out;omega⟩)) HK5.out)
theorem Lz{isN:ByteArray->Bool}:Qr (pvar isN):=by
 intro ts x r h
 obtain⟨n,s,h1,h⟩:=PR.bind_ok h
 have:=QJ h1
 by_cases hc:hd sPlus s=true
 ·rw[if_pos hc] at h
  obtain⟨_,_,h2,h⟩:=PR.bind_ok h
  have:=QH hc
  have:=VS h2
  cases h;omega
 ·rw[if_neg hc] at h;cases h;omega
theorem Ft{S:List Tk->PR Ty}(hS:Qr S)(k:Int):Qr (Zg S k):=by
 intro ts x r h
 obtain⟨_,_,h1,h⟩:=PR.bind_ok h
 obtain⟨_,_,h2,h⟩:=PR.bind_ok h
 obtain⟨_,_,h3,h⟩:=PR.bind_ok h
 obtain⟨_,_,h4,h⟩:=PR.bind_ok h
 have:=Yi h1
 have:=Hz hS _ _ _ h2
 have:=Qp h3
 have:=hS _ _ _ h4
 cases h;omega
theorem Ml{isN:ByteArray->Bool}{S:List Tk->PR Ty}(g:Nat)(hc:Qr (Ys isN S g))(k:Int):Qr (Jp isN S g k):=by
 intro ts x r h
 obtain⟨_,_,h1,h⟩:=PR.bind_ok h
 obtain⟨_,_,h2,h⟩:=PR.bind_ok h
 have:=Yi h1
 have:=hc _ _ _ h2
 cases h;omega
theorem LE{isN:ByteArray->Bool}{S:List Tk->PR Ty}(hS:Qr S):Qr (VH isN S):=by
 intro ts x r h
 obtain⟨_,_,h1,h⟩:=PR.bind_ok h
 obtain⟨_,_,h2,h⟩:=PR.bind_ok h
 obtain⟨_,_,h3,h⟩:=PR.bind_ok h
 have:=QJ h1
 have:=Qp h2
 have:=hS _ _ _ h3
 cases h;omega
theorem ZT:∀f,Qr (Ql Qb f)
 |0,ts,x,r,h=>by cases h
 |f+1,ts,x,r,h=>by
  have ih:=ZT f
  rw[Ql] at h
  split at h
  ·next hc=>cases h;exact QH hc
  split at h
  ·next hc=>have:=QH hc;have:=Ft ih _ _ _ _ h;omega
  split at h
  ·next hc=>have:=QH hc;have:=Ft ih _ _ _ _ h;omega
  split at h
  ·next hc=>have:=QH hc;have:=Ml f (UW ih f) _ _ _ _ h;omega
  split at h
  ·next hc=>have:=QH hc;have:=Ml f (UW ih f) _ _ _ _ h;omega
  split at h
  ·next hc=>have:=QH hc;have:=LE ih _ _ _ h;omega
  split at h
  ·next hc=>
   have:=QH hc
   obtain⟨_,_,h1,h⟩:=PR.bind_ok h
   obtain⟨_,_,h2,h⟩:=PR.bind_ok h
   have:=ih _ _ _ h1
   have:=Qp h2
   cases h;omega
  ·exact Lz _ _ _ h
theorem GN:∀args w,(callFunc 68 args).run Tryz.prog w= .ok (.enter 68 args) w:=enters_of Tryz.func68 (by kernel_rfl) rfl
theorem GA(P tb:Nat)(E:Int)(ts:List Tk)(B:Nat)(w:World)(he:Env B w)(hBP:B<=P)(h:PaIs P tb E ts w)(S:List Tk->PR Ty)(n:Nat)(hn:ts.length<n)(hS:SessOK P tb E B S n)(hSh:Qr S)(g:Nat)(hg:ts.length<=g)(k:Int):
 Calls Tryz.prog 94 #[.pointer (some ⟨P,0,none⟩),.int .i64 k] w (Parsed P tb E w (Jp Qb S g k ts) (GTy w.heap.size)):=by
 obtain⟨W1,HW1,hs1,hP,htb,HTB,HP,HB,HB1,HX1,HE⟩:=pro #[.int .i64 0,.int .i64 0,.string ⟨#[]⟩,.int .i64 0,.slice none 0 0,.slice none 0 0] 28 he h
 clear he h
 have HS:=hid hS
 clear hS
 obtain⟨q,HQ⟩:=exq (Jp Qb S g k ts)
 rw[HQ.out]
 go_enter Tryz.func94,Tryz.ntmps94
 go_upto_region 1 with fail
 rw[HW1.out]
 go_wp2_with (first|(go_at_call 120;refine(NN P tb E _ _ HP.out).mono ?_;rintro _ wn h;have hz:=HB.out.size;rcases Parsed.part HB h with⟨pr,_,v,h0,rfl,hg,HP,HB⟩|⟨er,r,h0,rfl,HB⟩;obtain rfl:=hg;have l1:=Yi h0)|(go_at_call 122;refine(GB P tb E _ B _ (HE.out.but HB.out hBP) hBP HP.out 68 #[.pointer (some ⟨P,0,none⟩)] #[] GN S n (by omega) HS.out hSh g (by omega)).mono ?_;rintro _ wn h;have hz:=HB.out.size;rcases Parsed.part HB h with⟨l,r,v,h0,rfl,⟨lv,kv,rfl,hls,hks⟩,HP,HB⟩|⟨er,r,h0,rfl,HB⟩;obtain⟨la,ln,lc,rfl,-⟩:=hls.open;obtain⟨ka,kn,kc,rfl,-⟩:=hks.open;have HLS:=hid (StrSl.mono (C:=fun k=>W1.heap.size<=k/\k<wn.heap.size) (fun k hk=>⟨lT hz hk.1,hk.2⟩) hls);have HKS:=hid (TySl.mono (C:=fun k=>W1.heap.size<=k/\k<wn.heap.size) (fun k hk=>⟨lT hz hk.1,hk.2⟩) hks);clear hls hks;obtain⟨⟨⟨q0,q1,q2,q3,q4,q5⟩,z0,z1,z2,z3,z4,z5⟩,HX9⟩:=YX HX1 HB hs1 hP))
 any_goals (first|(obtain rfl:q= .bad er r:=HQ.out.symm.trans (by simp[Jp,PR.bind, *]);exact⟨rfl,rfl,(But.of HB1.out).trans HB.out⟩)|fail)
 obtain rfl:q= .ok (.mk k pr ⟨#[]⟩ 0 (l.map (·.1)) (l.map (·.2))) r:=HQ.out.symm.trans (by simp[Jp,PR.bind, *] <;> rfl)
 refine bodyPost_ret ?_ rfl (ZK (GTy.node (Nat.zero_le _) HLS.out HKS.out) hs1 hP htb HP HB1 HB)
 simp[results,Tryz.results94,go_sem,y6 HX9]
theorem Dx(P tb:Nat)(E:Int)(ts:List Tk)(B:Nat)(w:World)(he:Env B w)(hBP:B<=P)(h:PaIs P tb E ts w)(f:Nat)(hn:ts.length<f+1)(hS:SessOK P tb E B (Ql Qb f) f):
 Calls Tryz.prog 68 #[.pointer (some ⟨P,0,none⟩)] w (Parsed P tb E w (Ql Qb (f+1) ts) (GTy w.heap.size)):=by
 obtain⟨W1,HW1,hs1,hP,htb,HTB,HP,HB,HB1,HX1,HE⟩:=pro #[.int .i64 0,.int .i64 0,.string ⟨#[]⟩,.int .i64 0,.slice none 0 0,.slice none 0 0] 28 he h
 clear he h
 have HS:=hid hS
 clear hS
 have HSH:=hid (ZT f)
 obtain⟨q,HQ⟩:=exq (Ql Qb (f+1) ts)
 rw[HQ.out]
 go_enter Tryz.func68,Tryz.ntmps68
 go_upto_region 1 with fail
 rw[HW1.out]
 go_upto_region 15 with(first|(go_at_call 50;refine(takC HP HB).mono ?_;rintro _ wn (⟨h0,rfl,HP,HB⟩|⟨h0,rfl,HP,HB⟩) <;> (try have l0:=QH h0) <;> obtain⟨⟨⟨q0,q1,q2,q3,q4,q5⟩,z0,z1,z2,z3,z4,z5⟩,HX9⟩:=YX HX1 HB hs1 hP)|(go_at_call 93;refine(TF P tb E _ B _ (HE.out.but HB.out hBP) hBP HP.out (Ql Qb f) f (by omega) HS.out HSH.out _).mono ?_;rintro _ wn h;have hz:=HB.out.size;rcases Parsed.part HB h with⟨t,r,v,h0,rfl,hg,HP,HB⟩|⟨er,r,h0,rfl,HB⟩;obtain⟨la,ln,lc,ka,kn,kc,rfl⟩:=hg.open;have HG:=hid (hg.mono hz);clear hg;obtain⟨⟨⟨q0,q1,q2,q3,q4,q5⟩,z0,z1,z2,z3,z4,z5⟩,HX9⟩:=YX HX1 HB hs1 hP)|(go_at_call 94;refine(GA P tb E _ B _ (HE.out.but HB.out hBP) hBP HP.out (Ql Qb f) f (by omega) HS.out HSH.out f (by omega) _).mono ?_;rintro _ wn h;have hz:=HB.out.size;rcases Parsed.part HB h with⟨t,r,v,h0,rfl,hg,HP,HB⟩|⟨er,r,h0,rfl,HB⟩;obtain⟨la,ln,lc,ka,kn,kc,rfl⟩:=hg.open;have HG:=hid (hg.mono hz);clear hg;obtain⟨⟨⟨q0,q1,q2,q3,q4,q5⟩,z0,z1,z2,z3,z4,z5⟩,HX9⟩:=YX HX1 HB hs1 hP)|(go_at_call 95;refine(Sk P tb E _ B _ (HE.out.but HB.out hBP) hBP HP.out (Ql Qb f) f (by omega) HS.out).mono ?_;rintro _ wn h;have hz:=HB.out.size;rcases Parsed.part HB h with⟨t,r,v,h0,rfl,hg,HP,HB⟩|⟨er,r,h0,rfl,HB⟩;obtain⟨la,ln,lc,ka,kn,kc,rfl⟩:=hg.open;have HG:=hid (hg.mono hz);clear hg;obtain⟨⟨⟨q0,q1,q2,q3,q4,q5⟩,z0,z1,z2,z3,z4,z5⟩,HX9⟩:=YX HX1 HB hs1 hP)|(go_at_call 96;refine(WZ P tb E _ B _ (HE.out.but HB.out hBP) HP.out).mono ?_;rintro _ wn h;have hz:=HB.out.size;rcases Parsed.part HB h with⟨t,r,v,h0,rfl,hg,HP,HB⟩|⟨er,r,h0,rfl,HB⟩;obtain⟨la,ln,lc,ka,kn,kc,rfl⟩:=hg.open;have HG:=hid (hg.mono hz);clear hg;obtain⟨⟨⟨q0,q1,q2,q3,q4,q5⟩,z0,z1,z2,z3,z4,z5⟩,HX9⟩:=YX HX1 HB hs1 hP)|(go_at_call 68;refine(HS.out _ _ (by omega) (HE.out.but HB.out hBP) HP.out).mono ?_;rintro _ wn h;have hz:=HB.out.size;rcases Parsed.part HB h with⟨t,_,v,h0,rfl,hg,HP,HB⟩|⟨er,r,h0,rfl,HB⟩;obtain⟨la,ln,lc,ka,kn,kc,rfl⟩:=hg.open;have HG:=hid (hg.mono hz);clear hg))
 any_goals (first|(obtain rfl:q= .bad er r:=HQ.out.symm.trans (by simp[Ql,PR.bind, *]);exact⟨rfl,rfl,(But.of HB1.out).trans HB.out⟩)|fail)
 any_goals (first|(obtain rfl:q= .ok (.mk 3 0 ⟨#[]⟩ 0 [] []) ts.tail:=HQ.out.symm.trans (by simp[Ql,PR.bind, *]);refine bodyPost_ret ?_ rfl (ZK (GTy.leaf _ _ 3 0 0 ⟨#[]⟩ (Nat.zero_le _)) hs1 hP htb HP HB1 HB);simp[results,Tryz.results68,go_sem,y6 HX9];done)|(obtain rfl:q= .ok (t) r:=HQ.out.symm.trans (by simp[Ql,PR.bind, *]);refine bodyPost_ret ?_ rfl (ZK (HG.out) hs1 hP htb HP HB1 HB);simp[results,Tryz.results68,go_sem,y6 HX9];done)|fail)
 obtain⟨W4,HW4,hl4,hn4,hsz,HB4,HP,HB,HC,HX4⟩:=box (cT t la ln lc ka kn kc) 28 HP HB (by omega)
 rw[HW4.out]
 have HGT:=hid (HG.out.but (But.of (P:=P) HB4.out) (Nat.lt_trans hP hs1))
 clear HG HW4 HB4
 obtain⟨T6,hT6⟩:=exw wn.heap.size
 rw[hT6] at HX4 hl4 hn4 hsz |-
 clear hT6
 go_wp2_with (go_at_call 52;refine(expC HP HC).mono ?_;rintro _ wn (⟨_,r,h0,rfl,l0,HP,HC⟩|⟨er,r,h0,rfl,HC⟩) <;> (replace HB:=hid (HB.out.trans HC.out);obtain⟨⟨⟨d0,d1,d2,d3,d4,d5⟩,-⟩,-⟩:=YX HX4 HC hl4 (by omega);obtain⟨⟨⟨q0,q1,q2,q3,q4,q5⟩,z0,z1,z2,z3,z4,z5⟩,HX9⟩:=YX HX1 HB hs1 hP))
 any_goals (first|(obtain rfl:q= .bad er r:=HQ.out.symm.trans (by simp[Ql,PR.bind, *]);exact⟨rfl,rfl,(But.of HB1.out).trans HB.out⟩)|fail)
 obtain rfl:q= .ok (t) r:=HQ.out.symm.trans (by simp[Ql,PR.bind, *] <;> rfl)
 refine bodyPost_ret ?_ rfl (ZK (HGT.out.but HC.out (Nat.lt_trans hP hs1)) hs1 hP htb HP HB1 HB)
 simp[results,Tryz.results68,go_sem,y6 HX9]
theorem Xv(P tb:Nat)(E:Int)(B:Nat)(hBP:B<=P):∀f,SessOK P tb E B (Ql Qb f) f
 |0,_,_,h,_,_=>absurd h (Nat.not_lt_zero _)
 |f+1,ts,W,h,he,hp=>Dx P tb E ts B W he hBP hp f h (Xv P tb E B hBP f)
theorem SV{γ:Type}(P:Nat):Noted (γ:=γ) (fun _ _=>True) (fun _ _=>False) P:=⟨fun _ h=>h.elim,fun _ _ _=>⟨trivial,fun _=>Iff.rfl⟩⟩
theorem Wz(P tb:Nat)(E:Int)(B:Nat)(hBP:B<=P)(n:Nat):XG P tb E B 142 #[.pointer (some ⟨P,0,none⟩)] #[] (pval Qb) (fun x=>x) XL (fun _ _=>True) (fun _ _=>False) n:=by
 intro xs ts W _ _ he hp _
 refine(Fm P tb E ts B W he hBP hp).mono (fun e w' hq=>?_)
 dsimp only
 unfold Parsed at hq
 cases hc:pval Qb ts with
 |ok x r=>
  rw[hc] at hq
  obtain⟨⟨v,e1,hg⟩,h2,h3⟩:=hq
  exact⟨⟨v,e1,hg⟩,h2,trivial,h3.o _,fun _ h=>h.elim⟩
 |bad er r=>
  rw[hc] at hq
  exact⟨hq.1,hq.2.o _⟩
theorem VW(P tb:Nat)(E:Int)(B:Nat)(hBP:B<=P)(S:List Tk->PR Ty)(n:Nat)(hS:SessOK P tb E B S n):XG P tb E B 80 #[.pointer (some ⟨P,0,none⟩)] #[] (Zu S) (fun x=>x) PmVal (fun _ _=>True) (fun _ _=>False) (n+1):=by
 intro xs ts W hn _ he hp _
 refine(DF P tb E ts B W he hBP hp S n (by omega) hS).mono (fun e w' hq=>?_)
 dsimp only
 unfold Parsed at hq
 cases hc:Zu S ts with
 |ok x r=>
  rw[hc] at hq
  obtain⟨⟨v,e1,tl,tk,e2,hz,hg⟩,h2,h3⟩:=hq
  refine⟨⟨v,e1,tl,tk,e2,hz,TyVal.mono (fun k hk=>⟨hk.1,hk.2,fun h=>h⟩) hg⟩,h2,trivial,h3.o _,fun _ h=>h.elim⟩
 |bad er r=>
  rw[hc] at hq
  exact⟨hq.1,hq.2.o _⟩
theorem Xl{α:Type}{F:List Tk->PR α}(hF:Qr F)(s:ByteArray)(g:Nat):Qr (Qq F s g):=by
 intro ts x r h
 unfold Qq at h
 split at h
 ·next hc=>cases h;exact QH hc
 ·obtain⟨_,_,h1,h⟩:=PR.bind_ok h
  obtain⟨_,_,h2,h⟩:=PR.bind_ok h
  have:=MQ hF g _ _ _ h1
  have:=Qp h2
  cases h;omega
theorem Sf(P tb:Nat)(E:Int)(ts:List Tk)(B:Nat)(w:World)(he:Env B w)(hBP:B<=P)(h:PaIs P tb E ts w)(s:ByteArray)(hs:((⟨#[]⟩:ByteArray).toList==s.toList)=false)(f:Nat)(bs cs:Array Value)(eg:∀args w,(callFunc f args).run Tryz.prog w= .ok (.enter f args) w)
 (Fg:List Tk->PR Vl) (n:Nat) (hn:ts.length<n) (hF:XG P tb E B f bs cs Fg (fun x=>x) XL (fun _ _=>True) (fun _ _=>False) n) (hS:Qr Fg) (g:Nat) (hg:ts.length<g):
 Calls Tryz.prog 141 #[.pointer (some ⟨P,0,none⟩),.string s,.func (.func f) bs cs] w (Parsed P tb E w (Qq Fg s g ts) (fun w' xs v=>VlSl (fun k=>w.heap.size<=k/\k<w'.heap.size) w' v xs)):=by
 have hP:P<w.heap.size:=h.lt
 have HEL:=hid hF
 have HSH:=hid hS
 have HE:=hid he
 have HP:=hid h
 have HB:Hid (But P w w):=hid (But.refl _ _)
 clear hF hS he h
 obtain⟨q,HQ⟩:=exq (Qq Fg s g ts)
 rw[HQ.out]
 go_enter Tryz.func141,Tryz.ntmps141
 go_wp2_with (first|(go_at_call 50;refine(takC HP HB hs).mono ?_;rintro _ wn (⟨h0,rfl,HP,HB⟩|⟨h0,rfl,HP,HB⟩))|(go_at_call 153;refine(DI P tb E _ B _ (HE.out.but HB.out hBP) hBP HP.out f bs cs eg Fg (fun x=>x) _ _ n hn HEL.out (SV P) HSH.out g hg trivial (fun _ h=>h.elim)).mono ?_;rintro _ wn h;rcases h0:QP Fg g ts with⟨l,r⟩|⟨er,r⟩ <;> rw[h0] at h;(obtain⟨⟨kv,rfl,hkv⟩,hp,-,hb,-⟩:=h;replace hb:=hb.but (fun _ _ h=>h);have hz:=HB.out.size;have HK:=hid hkv;have HPn:=hid hp;have HC:=hid hb;replace HP:=HPn;replace HB:=hid (HB.out.trans hb);clear hkv hp hb);rotate_left 1;(obtain⟨rfl,hb⟩:=h;replace HB:=hid (HB.out.trans (hb.but (fun _ _ h=>h)));clear hb);rotate_left 1)|(go_at_call 52;refine(expC HP (hid (But.refl _ _)) hs).mono ?_;rintro _ wx (⟨_,r,h9,rfl,l0,HP,HD⟩|⟨er,r,h9,rfl,HD⟩) <;> replace HB:=hid (HB.out.trans HD.out)))
 any_goals (first|(obtain rfl:q= .bad er r:=HQ.out.symm.trans (by simp[Qq,PR.bind, *]);exact⟨rfl,rfl,HB.out⟩)|fail)
 all_goals go_ret
 ·obtain rfl:q= .ok [] ts.tail:=HQ.out.symm.trans (by simp[Qq, *])
  exact⟨⟨_,rfl,⟨.inl ⟨⟨_,_,rfl⟩,rfl⟩,Nat.zero_le _,fun s hs=>by cases hs⟩⟩,HP.out,HB.out⟩
 ·obtain rfl:q= .ok (l) r:=HQ.out.symm.trans (by simp[Qq,PR.bind, *] <;> rfl)
  refine⟨⟨_,rfl,?_⟩,HP.out,HB.out⟩
  have h9:=VlSl.mono (fun k hk=>⟨by omega,lL hk.2.1 HD.out.size⟩) (VlSl.keep (HD.out.keeps (fun k hk=>⟨hk.2.1,by omega⟩)) HK.out) (C:=fun k=>w.heap.size<=k/\k<wx.heap.size)
  rwa[List.map_id'] at h9
theorem MM(P tb:Nat)(E:Int)(ts:List Tk)(B:Nat)(w:World)(he:Env B w)(hBP:B<=P)(h:PaIs P tb E ts w)(s:ByteArray)(hs:((⟨#[]⟩:ByteArray).toList==s.toList)=false)(f:Nat)(bs cs:Array Value)(eg:∀args w,(callFunc f args).run Tryz.prog w= .ok (.enter f args) w)
 (Fg:List Tk->PR Pm) (n:Nat) (hn:ts.length<n) (hF:XG P tb E B f bs cs Fg (fun x=>x) PmVal (fun _ _=>True) (fun _ _=>False) n) (hS:Qr Fg) (g:Nat) (hg:ts.length<g):
 Calls Tryz.prog 79 #[.pointer (some ⟨P,0,none⟩),.string s,.func (.func f) bs cs] w (Parsed P tb E w (Qq Fg s g ts) (fun w' xs v=>PmSl (fun k=>w.heap.size<=k/\k<w'.heap.size) w' v xs)):=by
 have hP:P<w.heap.size:=h.lt
 have HEL:=hid hF
 have HSH:=hid hS
 have HE:=hid he
 have HP:=hid h
 have HB:Hid (But P w w):=hid (But.refl _ _)
 clear hF hS he h
 obtain⟨q,HQ⟩:=exq (Qq Fg s g ts)
 rw[HQ.out]
 go_enter Tryz.func79,Tryz.ntmps79
 go_wp2_with (first|(go_at_call 50;refine(takC HP HB hs).mono ?_;rintro _ wn (⟨h0,rfl,HP,HB⟩|⟨h0,rfl,HP,HB⟩))|(go_at_call 109;refine(DJ P tb E _ B _ (HE.out.but HB.out hBP) hBP HP.out f bs cs eg Fg (fun x=>x) _ _ n hn HEL.out (SV P) HSH.out g hg trivial (fun _ h=>h.elim)).mono ?_;rintro _ wn h;rcases h0:QP Fg g ts with⟨l,r⟩|⟨er,r⟩ <;> rw[h0] at h;(obtain⟨⟨kv,rfl,hkv⟩,hp,-,hb,-⟩:=h;replace hb:=hb.but (fun _ _ h=>h);have hz:=HB.out.size;have HK:=hid hkv;have HPn:=hid hp;have HC:=hid hb;replace HP:=HPn;replace HB:=hid (HB.out.trans hb);clear hkv hp hb);rotate_left 1;(obtain⟨rfl,hb⟩:=h;replace HB:=hid (HB.out.trans (hb.but (fun _ _ h=>h)));clear hb);rotate_left 1)|(go_at_call 52;refine(expC HP (hid (But.refl _ _)) hs).mono ?_;rintro _ wx (⟨_,r,h9,rfl,l0,HP,HD⟩|⟨er,r,h9,rfl,HD⟩) <;> replace HB:=hid (HB.out.trans HD.out)))
 any_goals (first|(obtain rfl:q= .bad er r:=HQ.out.symm.trans (by simp[Qq,PR.bind, *]);exact⟨rfl,rfl,HB.out⟩)|fail)
 all_goals go_ret
 ·obtain rfl:q= .ok [] ts.tail:=HQ.out.symm.trans (by simp[Qq, *])
  exact⟨⟨_,rfl,⟨.inl ⟨⟨_,_,rfl⟩,rfl⟩,Nat.zero_le _⟩⟩,HP.out,HB.out⟩
 ·obtain rfl:q= .ok (l) r:=HQ.out.symm.trans (by simp[Qq,PR.bind, *] <;> rfl)
  refine⟨⟨_,rfl,?_⟩,HP.out,HB.out⟩
  have h9:=PmSl.mono (fun k hk=>⟨by omega,lL hk.2.1 HD.out.size⟩) (PmSl.keep (HD.out.keeps (fun k hk=>⟨hk.2.1,by omega⟩)) HK.out) (C:=fun k=>w.heap.size<=k/\k<wx.heap.size)
  rwa[List.map_id'] at h9
theorem DX:∀args w,(callFunc 142 args).run Tryz.prog w= .ok (.enter 142 args) w:=enters_of Tryz.func142 (by kernel_rfl) rfl
theorem Xp:∀args w,(callFunc 80 args).run Tryz.prog w= .ok (.enter 80 args) w:=enters_of Tryz.func80 (by kernel_rfl) rfl
theorem GO:∀args w,(callFunc 31 args).run Tryz.prog w= .ok (.enter 31 args) w:=enters_of Tryz.func31 (by kernel_rfl) rfl
theorem RM{B:Nat->Prop}{W:World}{b:Nat}{T:TypeId}{fr:Nat×Nat}{s:ByteArray}(h:W.heap[b]? =some (.cells #[.string s] T fr))(hb:B b)(hs:s.size<=maxLen):StrSl B W (.slice (some ⟨b,0,none⟩) 1 1) [s]:=
 ⟨.inr ⟨b,0,1,rfl,hb,lR,fun j t hj=>by
  cases j with
  |zero=>simp at hj;subst hj;exact Qu h
  |succ j=>simp at hj⟩,by simp[maxLen],fun t ht=>by rw[mS ht];exact hs⟩
theorem DH(P tb:Nat)(E:Int)(ts:List Tk)(B:Nat)(w:World)(he:Env B w)(hBP:B<=P)(h:PaIs P tb E ts w)(PF S:List Tk->PR Pr)(n:Nat)(hn:ts.length<n)(hF:Nt P tb E B PF n)(hS:KQ P tb E B S n)(hFs:Qr PF)(g:Nat)(hg:ts.length<=g)(c:ByteArray)(hcz:c.size<=maxLen):
 Calls Tryz.prog 118 #[.pointer (some ⟨P,0,none⟩),.string c] w (Parsed P tb E w (QZ Qb PF S g c ts) (GPr w.heap.size)):=by
 obtain⟨W1,HW1,hs1,hP,htb,HTB,HP,HB,HB1,HX1,HE⟩:=pro (cN 0 ⟨#[]⟩ ⟨#[]⟩ sN sN sN) 31 he h
 clear he h
 have HF:=hid hF
 have HS:=hid hS
 have HFS:=hid hFs
 clear hF hS hFs
 obtain⟨q,HQ⟩:=exq (QZ Qb PF S g c ts)
 rw[HQ.out]
 go_enter Tryz.func118,Tryz.ntmps118
 go_upto_region 1 with fail
 rw[HW1.out]
 go_upto_region 7 with(first|(go_at_call 50;refine(takC HP HB).mono ?_;rintro _ wn (⟨h0,rfl,HP,HB⟩|⟨h0,rfl,HP,HB⟩) <;> (try have l9:=QH h0))|(go_at_call 137;refine(Tt P tb E _ B _ (HE.out.but HB.out hBP) hBP HP.out S n (by omega) HS.out c hcz).mono ?_;rintro _ wn h;have hz:=HB.out.size;rcases Parsed.part HB h with⟨p,r,v,h0,rfl,hg,HP,HB⟩|⟨er,r,h0,rfl,HB⟩;obtain⟨la,ln,lc,aa,an,ac,ta,tn,tc,ua,un,uc,ka,kn,kc,rfl⟩:=hg.open;have HG:=hid (hg.mono hz);clear hg;obtain⟨⟨⟨q0,q1,q2,q3,q4,q5,q6,q7,q8,q9,q10,q11⟩,z0,z1,z2,z3,z4,z5,z6,z7,z8,z9,z10,z11⟩,HX9⟩:=ZZ HX1 HB hs1 hP)|(go_at_call 138;refine(Tz P tb E _ B _ (HE.out.but HB.out hBP) hBP HP.out S n (by omega) HS.out c hcz).mono ?_;rintro _ wn h;have hz:=HB.out.size;rcases Parsed.part HB h with⟨p,r,v,h0,rfl,hg,HP,HB⟩|⟨er,r,h0,rfl,HB⟩;obtain⟨la,ln,lc,aa,an,ac,ta,tn,tc,ua,un,uc,ka,kn,kc,rfl⟩:=hg.open;have HG:=hid (hg.mono hz);clear hg;obtain⟨⟨⟨q0,q1,q2,q3,q4,q5,q6,q7,q8,q9,q10,q11⟩,z0,z1,z2,z3,z4,z5,z6,z7,z8,z9,z10,z11⟩,HX9⟩:=ZZ HX1 HB hs1 hP)|(go_at_call 78;refine(namC HP HB (HE.out.but HB.out hBP)).mono ?_;rintro _ wn (⟨lb,_,h0,rfl,l0,hnz,HP,HB⟩|⟨er,r,h0,rfl,HB⟩))|(go_at_call 140;refine(GE P tb E _ B _ (HE.out.but HB.out hBP) hBP HP.out 31 #[.pointer (some ⟨P,0,none⟩)] #[] GO PF n (by omega) HF.out HFS.out g (by omega)).mono ?_;rintro _ wn h;have hz:=HB.out.size;rcases Parsed.part HB h with⟨l,r,v,h0,rfl,⟨lv,kv,rfl,hls,hks⟩,HP,HB⟩|⟨er,r,h0,rfl,HB⟩;obtain⟨la,ln,lc,rfl,-⟩:=hls.open;obtain⟨ka,kn,kc,rfl,-⟩:=PrSl.open hks;have HLS:=hid (StrSl.mono (C:=fun k=>W1.heap.size<=k/\k<wn.heap.size) (fun k hk=>⟨lT hz hk.1,hk.2⟩) hls);have HKS:=hid (PrSl.mono (C:=fun k=>W1.heap.size<=k/\k<wn.heap.size) (fun k hk=>⟨lT hz hk.1,hk.2⟩) hks);clear hls hks;obtain⟨⟨⟨q0,q1,q2,q3,q4,q5,q6,q7,q8,q9,q10,q11⟩,z0,z1,z2,z3,z4,z5,z6,z7,z8,z9,z10,z11⟩,HX9⟩:=ZZ HX1 HB hs1 hP)|(go_at_call 52;refine(expC HP HB).mono ?_;rintro _ wn (⟨_,_,h0,rfl,l0,HP,HB⟩|⟨er,r,h0,rfl,HB⟩))|(go_at_call 141;refine(Sf P tb E _ B _ (HE.out.but HB.out hBP) hBP HP.out ZX (by decide+kernel) 142 #[.pointer (some ⟨P,0,none⟩)] #[] DX (pval Qb) (n+1) (by omega) (Wz P tb E B hBP (n+1)) XP g (by omega)).mono ?_;rintro _ wn h;have hz:=HB.out.size;rcases Parsed.part HB h with⟨l,r,v,h0,rfl,hks,HP,HB⟩|⟨er,r,h0,rfl,HB⟩;obtain⟨ka,kn,kc,rfl,-⟩:=hks.open;have HVS:=hid (VlSl.mono (C:=fun k=>W1.heap.size<=k/\k<wn.heap.size) (fun k hk=>⟨lT hz hk.1,hk.2⟩) hks);clear hks;obtain⟨⟨⟨q0,q1,q2,q3,q4,q5,q6,q7,q8,q9,q10,q11⟩,z0,z1,z2,z3,z4,z5,z6,z7,z8,z9,z10,z11⟩,HX9⟩:=ZZ HX1 HB hs1 hP))
 any_goals (first|(obtain rfl:q= .bad er r:=HQ.out.symm.trans (by simp[QZ,VG,VI,ZE,PR.bind, *]);exact⟨rfl,rfl,(But.of HB1.out).trans HB.out⟩)|fail)
 any_goals (first|(obtain rfl:q= .ok (.mk 5 c ⟨#[]⟩ (l.map (·.1)) [] zT (l.map (·.2))) r:=HQ.out.symm.trans (by simp[QZ,VI,PR.bind, *]);refine bodyPost_ret ?_ rfl (Zn (GPr.node (t:=zT) hcz (Nat.zero_le _) HLS.out (JK _ _) (YF _ _) HKS.out) hs1 hP htb HP HB1 HB);simp[results,Tryz.results118,go_sem,y12 HX9];done)|(obtain rfl:q= .ok (.mk 8 c ⟨#[]⟩ [] l zT []) r:=HQ.out.symm.trans (by simp[QZ,ZE,PR.bind, *]);refine bodyPost_ret ?_ rfl (Zn (GPr.node (t:=zT) hcz (Nat.zero_le _) (Jv _ _) HVS.out (YF _ _) (XQ _ _)) hs1 hP htb HP HB1 HB);simp[results,Tryz.results118,go_sem,y12 HX9];done)|(obtain rfl:q= .ok (p) r:=HQ.out.symm.trans (by simp[QZ, *]);refine bodyPost_ret ?_ rfl (Zn (HG.out) hs1 hP htb HP HB1 HB);simp[results,Tryz.results118,go_sem,y12 HX9];done)|fail)
 obtain⟨W4,HW4,hl4,hn4,hsz,HB4,HP,HB,HC,HX4⟩:=box #[.string lb] 9 HP HB (by omega)
 have hW4:=HW4.out
 go_wp2_with (go_at_call 139;refine(Vr P tb E _ B _ (HE.out.but HB.out hBP) hBP HP.out S n (by omega) HS.out).mono ?_;rintro _ wm h;have hz:=HB.out.size;rcases Parsed.part HC h with⟨p,r,v,h0,rfl,hg,HP,HC⟩|⟨er,r,h0,rfl,HC⟩ <;> (replace HB:=hid (HB.out.trans HC.out));obtain⟨ka,kn,kc,rfl,-⟩:=PrSl.open hg;have HG:=hid (GPrs.mono hg hz);have HX5:=hid ((HC.out.block wn.heap.size hl4 hn4).trans HX4.out);clear hg;obtain⟨⟨⟨q0,q1,q2,q3,q4,q5,q6,q7,q8,q9,q10,q11⟩,z0,z1,z2,z3,z4,z5,z6,z7,z8,z9,z10,z11⟩,HX9⟩:=ZZ HX1 HB hs1 hP)
 any_goals (first|(obtain rfl:q= .bad er r:=HQ.out.symm.trans (by simp[QZ,VG,PR.bind, *]);exact⟨rfl,rfl,(But.of HB1.out).trans HB.out⟩)|fail)
 obtain rfl:q= .ok (.mk 4 c ⟨#[]⟩ [lb] [] zT [p]) r:=HQ.out.symm.trans (by simp[QZ,VG,PR.bind, *] <;> rfl)
 refine bodyPost_ret ?_ rfl (Zn (GPr.node (t:=zT) hcz (Nat.zero_le _) (RM HX5.out ⟨hsz,(gl HX5.out)⟩ hnz) (JK _ _) (YF _ _) HG.out) hs1 hP htb HP HB1 HB)
 simp[results,Tryz.results118,go_sem,y12 HX9]
def SR(P tb:Nat)(E:Int)(base:Nat)(l:Value)(xs:List Pr)(W:World)(r:PR (List Pr))(e:Ending)(w':World):Prop:=match r with
 | .ok ys r=>(∃l' vs',e= .returned l'/\LRow 31 12 base (fun B w v p=>PrVal B w v p) (fun _=>False) w' l' vs' (xs++ys)/\∀k,l'.ownBlock=some k->l.ownBlock=some k\/W.heap.size<=k)/\PaIs P tb E r w'/\ButO P (fun k=>some k=l.ownBlock) W w'
 | .bad er r=>e= .panicked (YT er (posE E r))/\ButO P (fun k=>some k=l.ownBlock) W w'
def MH(P tb:Nat)(E:Int)(B f:Nat)(ts:List Tk):Prop:=∀(base:Nat) (l:Value) (vs:List Value) (xs:List Pr) (W:World),P<base->tb<base->base<=W.heap.size->xs.length+ts.length<=1000000->Env B W->PaIs P tb E ts W->LRow 31 12 base (fun B w v p=>PrVal B w v p) (fun _=>False) W l vs xs->
 Calls Tryz.prog 65 #[.pointer (some ⟨P,0,none⟩),l] W (SR P tb E base l xs W (Qo Qb f true ts))
def La(P tb:Nat)(E:Int)(B f:Nat)(ts:List Tk):Prop:=∀(W:World),Env B W->PaIs P tb E ts W->Calls Tryz.prog 91 #[.pointer (some ⟨P,0,none⟩)] W (Parsed P tb E W (QV Qb f ts) (GPr W.heap.size))
theorem VD{isN:ByteArray->Bool}:∀(f:Nat) (ts:List Tk) (l:List Pr) (r:List Tk),Qo isN f false ts= .ok l r->∃p,l=[p]
 |0,ts,l,r,h=>by rw[Qo] at h;cases h
 |f+1,ts,l,r,h=>by
  rw[Qo] at h
  split at h
  ·cases h;exact⟨_,rfl⟩
  split at h
  ·cases h1:Qo isN f true ts.tail with
   |bad e r1=>rw[h1] at h;cases h
   |ok m r1=>
    rw[h1] at h
    replace h:((need Qy r1).bind fun _ r=>PR.ok [ZQ m] r)= .ok l r:=h
    cases h2:need Qy r1 with
    |bad e r2=>rw[h2] at h;cases h
    |ok u r2=>rw[h2] at h;cases h;exact⟨_,rfl⟩
  split at h
  ·cases h1:YV isN (Ql isN f) (fun r=>(Qo isN f false r).bind fun l r=> .ok (ZQ l) r) ts.tail with
   |bad e r1=>rw[h1] at h;cases h
   |ok p r1=>rw[h1] at h;cases h;exact⟨_,rfl⟩
  ·cases h1:Qk isN ts with
   |bad e r1=>rw[h1] at h;cases h
   |ok c r1=>
    rw[h1] at h
    replace h:((QZ isN (fun r=>(Qo isN f true r).bind fun l r=> .ok (ZQ l) r) (fun r=>(Qo isN f false r).bind fun l r=> .ok (ZQ l) r) f c r1).bind fun p r=>PR.ok [p] r)= .ok l r:=h
    cases h2:QZ isN (fun r=>(Qo isN f true r).bind fun l r=> .ok (ZQ l) r) (fun r=>(Qo isN f false r).bind fun l r=> .ok (ZQ l) r) f c r1 with
    |bad e r2=>rw[h2] at h;cases h
    |ok p r2=>rw[h2] at h;cases h;exact⟨_,rfl⟩
theorem Ui{isN:ByteArray->Bool}(f:Nat)(ts:List Tk):Qo isN f false ts=(QV isN f ts).bind fun p r=> .ok [p] r:=by
 unfold QV
 cases h:Qo isN f false ts with
 |bad e r=>rfl
 |ok l r=>
  obtain⟨p,rfl⟩:=VD f ts l r h
  rfl
theorem Zf{isN:ByteArray->Bool}(f:Nat)(ts:List Tk):Qo isN (f+1) true ts=(if hd QI ts=true then (Qo isN f true ts.tail).bind fun l r=>(need Qy r).bind fun _ r=> .ok l r else (QV isN f ts).bind fun p r=> .ok [p] r).bind fun l r=>if hd sBar r=true then (Qo isN f true r.tail).bind fun m r=> .ok (l++m) r else .ok l r:=by
 rw[Qo,<-Ui]
theorem FH{ys zs:List Pr}(p:PR (List Pr)):((p.bind fun m r=>PR.ok (zs++m) r).bind fun m r=>PR.ok (ys++m) r)=p.bind fun m r=> .ok (ys++zs++m) r:=by
 cases p with
 |bad e r=>rfl
 |ok m r=>show PR.ok (ys++(zs++m)) r=PR.ok (ys++zs++m) r;rw[List.append_assoc]
theorem NM:Yt 29 31 12:=Yv
theorem MO{S:List Tk->PR Pr}(hS:Qr S):Qr (JG S):=by
 intro ts x r h
 obtain⟨_,s,h1,h2⟩:=PR.bind_ok h
 have:=Qp h1
 have:=hS _ _ _ h2
 omega
theorem Sg{S:List Tk->PR Pr}(hS:Qr S)(c:ByteArray):Qr (ZC Qb S c):=by
 intro ts x r h
 obtain⟨_,s1,h1,h⟩:=PR.bind_ok h
 obtain⟨_,s2,h2,h⟩:=PR.bind_ok h
 obtain⟨_,s3,h3,h⟩:=PR.bind_ok h
 obtain⟨_,s4,h4,h⟩:=PR.bind_ok h
 cases h
 have:=Qp h1
 have:=XP _ _ _ h2
 have:=Qp h3
 have:=MO hS _ _ _ h4
 omega
theorem Sj{S:List Tk->PR Pr}(hS:Qr S)(c:ByteArray):Qr (Yh Qb S c):=by
 intro ts x r h
 obtain⟨_,s1,h1,h⟩:=PR.bind_ok h
 obtain⟨_,s2,h2,h⟩:=PR.bind_ok h
 obtain⟨_,s3,h3,h⟩:=PR.bind_ok h
 obtain⟨_,s4,h4,h⟩:=PR.bind_ok h
 cases h
 have:=Qp h1
 have:=QJ h2
 have:=Qp h3
 have:=MO hS _ _ _ h4
 omega
theorem LB{S:List Tk->PR Pr}(hS:Qr S)(c:ByteArray):Qr (VG Qb S c):=by
 intro ts x r h
 obtain⟨_,s1,h1,h⟩:=PR.bind_ok h
 obtain⟨_,s2,h2,h⟩:=PR.bind_ok h
 cases h
 have:=QJ h1
 have:=MO hS _ _ _ h2
 omega
theorem LH{S:List Tk->PR Pr}(hS:Qr S)(g:Nat)(c:ByteArray):Qr (VI Qb S g c):=by
 intro ts x r h
 obtain⟨_,s1,h1,h⟩:=PR.bind_ok h
 cases h
 exact UW hS g _ _ _ h1
theorem Sq(g:Nat)(c:ByteArray):Qr (ZE Qb g c):=by
 intro ts x r h
 obtain⟨_,s1,h1,h⟩:=PR.bind_ok h
 obtain⟨_,s2,h2,h⟩:=PR.bind_ok h
 cases h
 have:=Qp h1
 have:=Xl XP _ g _ _ _ h2
 omega
theorem LF{F:List Tk->PR Ty}{S:List Tk->PR Pr}(hF:Qr F)(hS:Qr S):Qr (YV Qb F S):=by
 intro ts x r h
 obtain⟨_,s1,h1,h⟩:=PR.bind_ok h
 obtain⟨_,s2,h2,h⟩:=PR.bind_ok h
 obtain⟨_,s3,h3,h⟩:=PR.bind_ok h
 obtain⟨_,s4,h4,h⟩:=PR.bind_ok h
 obtain⟨_,s5,h5,h⟩:=PR.bind_ok h
 obtain⟨_,s6,h6,h⟩:=PR.bind_ok h
 obtain⟨_,s7,h7,h⟩:=PR.bind_ok h
 obtain⟨_,s8,h8,h⟩:=PR.bind_ok h
 cases h
 have:=Qp h1
 have:=QJ h2
 have:=Qp h3
 have:=QJ h4
 have:=Qp h5
 have:=hF _ _ _ h6
 have:=Qp h7
 have:=hS _ _ _ h8
 omega
theorem TE{PF S:List Tk->PR Pr}(hF:Qr PF)(hS:Qr S)(g:Nat)(c:ByteArray):Qr (QZ Qb PF S g c):=by
 intro ts x r h
 unfold QZ at h
 split at h
 ·next hc=>have:=QH hc;have:=Sg hS _ _ _ _ h;omega
 split at h
 ·next hc=>have:=QH hc;have:=Sj hS _ _ _ _ h;omega
 split at h
 ·next hc=>have:=QH hc;have:=LB hS _ _ _ _ h;omega
 split at h
 ·next hc=>have:=QH hc;have:=LH hF _ _ _ _ _ h;omega
 ·exact Sq _ _ _ _ _ h
theorem JU:∀(f:Nat) (b:Bool) (ts:List Tk) (l:List Pr) (r:List Tk),Qo Qb f b ts= .ok l r->r.length<ts.length/\l.length+r.length<=ts.length
 |0,_,_,_,_,h=>by rw[Qo] at h;cases h
 |f+1,true,ts,l,r,h=>by
  have ih:=JU f
  rw[Qo] at h
  obtain⟨m,s,h1,h2⟩:=PR.bind_ok h
  have k1:s.length<ts.length/\m.length+s.length<=ts.length:=by
   split at h1
   ·next hc=>
    have:=QH hc
    obtain⟨m2,s2,h3,h4⟩:=PR.bind_ok h1
    obtain⟨_,s3,h5,h6⟩:=PR.bind_ok h4
    cases h6
    have:=ih _ _ _ _ h3
    have:=Qp h5
    omega
   ·exact ih _ _ _ _ h1
  split at h2
  ·next hc=>
   have:=QH hc
   obtain⟨m2,s2,h3,h4⟩:=PR.bind_ok h2
   cases h4
   have:=ih _ _ _ _ h3
   rw[List.length_append]
   omega
  ·cases h2;exact k1
 |f+1,false,ts,l,r,h=>by
  have ih:=JU f
  have ihs:∀b,Qr (fun r=>(Qo Qb f b r).bind fun l r=>PR.ok (ZQ l) r):=fun b ts x r h=>by
   obtain⟨m,s,h1,h2⟩:=PR.bind_ok h
   cases h2
   exact(ih _ _ _ _ h1).1
  have h0:=VD _ _ _ _ h
  obtain⟨p,rfl⟩:=h0
  have key:r.length<ts.length:=by
   rw[Qo] at h
   split at h
   ·next hc=>cases h;exact QH hc
   split at h
   ·next hc=>
    have:=QH hc
    obtain⟨m2,s2,h3,h4⟩:=PR.bind_ok h
    obtain⟨_,s3,h5,h6⟩:=PR.bind_ok h4
    cases h6
    have:=ih _ _ _ _ h3
    have:=Qp h5
    omega
   split at h
   ·next hc=>
    have:=QH hc
    obtain⟨m2,s2,h3,h4⟩:=PR.bind_ok h
    cases h4
    have:=LF (ZT f) (ihs false) _ _ _ h3
    omega
   ·obtain⟨c,s,h1,h2⟩:=PR.bind_ok h
    obtain⟨m2,s2,h3,h4⟩:=PR.bind_ok h2
    cases h4
    have:=QJ h1
    have:=TE (ihs true) (ihs false) _ _ _ _ _ h3
    omega
  refine⟨key,?_⟩
  simp only[List.length_singleton]
  omega
theorem DE(P tb:Nat)(E:Int)(B:Nat)(hBP:B<=P)(f:Nat)(ts:List Tk)(hf:2*ts.length+2<=f)(ihS:∀f2 ts2,f2<f->2*ts2.length+1<=f2->La P tb E B f2 ts2)(ihP:∀f2 ts2,f2<f->2*ts2.length+2<=f2->MH P tb E B f2 ts2):MH P tb E B f ts:=by
 intro base l0 vs0 xs W hPb htb hbW hxl he h hrow0
 obtain⟨la0,ln0,lc0,rfl⟩:=hrow0.row.slice
 have HS:=hid ihS
 have HPP:=hid ihP
 have HE:=hid he
 have HP0:=hid h
 have HR0:=hid hrow0
 have hPW:P<W.heap.size:=h.lt
 have hlr:∀k,(Value.slice la0 ln0 lc0).ownBlock=some k->base<=k:=fun k hk=>(hrow0.row.lt k hk).1
 have HLR:=hid hlr
 clear ihS ihP he h hrow0 hlr
 go_enter Tryz.func65,Tryz.ntmps65
 go_wp2_with fail
 go_loopw [1] (fun l wr=>∃(ys:List Pr) (rs:List Tk) (vs:List Value) (la:Option Addr) (ln lc f2:Nat),l= .slice la ln lc/\Hid (LRow 31 12 base (fun B w v p=>PrVal B w v p) (fun _=>False) wr (.slice la ln lc) vs (xs++ys))/\Hid (PaIs P tb E rs wr)/\Hid (ButO P (fun k=>some k=(Value.slice la0 ln0 lc0).ownBlock) W wr)/\Hid (∀k,(Value.slice la ln lc).ownBlock=some k->(Value.slice la0 ln0 lc0).ownBlock=some k\/W.heap.size<=k)/\Hid (Qo Qb f true ts=(Qo Qb f2 true rs).bind fun m r=> .ok (ys++m) r)/\Hid (2*rs.length+2<=f2)/\Hid (f2<=f)/\Hid ((xs++ys).length+rs.length<=1000000)) (fun _ wr=>Nh P wr)
 case atStart=>
  refine⟨[],ts,vs0,_,_,_,f,rfl,hid (by rw[List.append_nil];exact HR0.out),HP0,hid (ButO.refl _ _ _),hid (fun k hk=> .inl hk),hid ?_,hid hf,hid lR,hid (by rw[List.append_nil];exact hxl)⟩
  cases Qo Qb f true ts <;> rfl
 case round=>
  obtain⟨ys,rs,vs,la,ln,lc,f2,rfl,HR,HPa,HBo,HOw,HEq,HF2,HFf,HLn⟩:=hrel
  rename World=>V0
  clear HR0 HP0
  have hf2:=HF2.out
  have hff:=HFf.out
  have hln:=HLn.out
  obtain⟨f3,rfl⟩:∃g,f2=g+1:=⟨f2-1,by omega⟩
  have HLEFT:=hid HPa.out.left
  have HLR2:Hid (∀k,(Value.slice la ln lc).ownBlock=some k->base<=k):=hid (fun k hk=>(HR.out.row.lt k hk).1)
  have HBV:Hid (∀w',But P V0 w'->Env B w'):=hid (fun w' hw=>HE.out.below ((HBo.out.trans (hw.o (fun _=>False)) (fun _ h=>h.elim)).below hBP (fun k hk=>by have:=HLR.out k hk.symm;omega) HE.out.size))
  cases ha:hd QI rs with
  |true=>
   have hrt:=QH ha
   cases h2:Qo Qb f3 true rs.tail with
   |bad er r2=>
    have e5:Qo Qb f true ts= .bad er r2:=by rw[HEq.out,Zf,if_pos ha,h2];rfl
    go_wp2_with (first|(go_at_call 50;refine(JJ P tb E _ (by decide+kernel) _ _ (by assumption) HPa.out).mono ?_;rintro en w1⟨rfl,hp,hb⟩;have HPw1:=hid hp;have HBw1:=hid hb;clear hp hb)|(go_at_call 65;refine(HPP.out f3 rs.tail (by omega) (by omega) base (.slice la ln lc) vs (xs++ys) w1 hPb htb (lT hbW (lT HBo.out.size HBw1.out.size)) (by omega) (HBV.out _ HBw1.out) HPw1.out (HR.out.frame lyPr (HBw1.out.o _) hPb (fun _ h=>h.elim))).mono ?_;rw[h2];rintro en w2⟨rfl,hb⟩;have HBw2:=hid hb;clear hb))
    exact⟨rfl,by rw[e5];exact⟨rfl,(HBo.out.trans (HBw1.out.o (fun _=>False)) (fun _ h=>h.elim)).trans HBw2.out (fun k hk=>(HOw.out k hk.symm).imp (fun h=>h.symm) (fun h=>lT h (lT lR (by have:=HBo.out.size;have:=HBw1.out.size;omega))))⟩⟩
   |ok y2 r2=>
    have hl2:=JU _ _ _ _ _ h2
    cases h3:need Qy r2 with
    |bad er r3=>
     have e5:Qo Qb f true ts= .bad er r3:=by rw[HEq.out,Zf,if_pos ha,h2];show PR.bind (PR.bind (PR.bind (need Qy r2) _) _) _=_;rw[h3];rfl
     go_wp2_with (first|(go_at_call 50;refine(JJ P tb E _ (by decide+kernel) _ _ (by assumption) HPa.out).mono ?_;rintro en w1⟨rfl,hp,hb⟩;have HPw1:=hid hp;have HBw1:=hid hb;clear hp hb)|(go_at_call 65;refine(HPP.out f3 rs.tail (by omega) (by omega) base (.slice la ln lc) vs (xs++ys) w1 hPb htb (lT hbW (lT HBo.out.size HBw1.out.size)) (by omega) (HBV.out _ HBw1.out) HPw1.out (HR.out.frame lyPr (HBw1.out.o _) hPb (fun _ h=>h.elim))).mono ?_;rw[h2];rintro en w2⟨⟨l2,vs2,rfl,hr2,ho2⟩,hp,hb⟩;obtain⟨la2,ln2,lc2,rfl⟩:=hr2.row.slice;have HPw2:=hid hp;have HBw2:=hid hb;have HR2:=hid hr2;have HO2:Hid (∀k,(Value.slice la2 ln2 lc2).ownBlock=some k->(Value.slice la0 ln0 lc0).ownBlock=some k\/W.heap.size<=k):=hid (fun k hk=>(ho2 k hk).elim (HOw.out k) (fun h=> .inr (by have:=HBo.out.size;have:=HBw1.out.size;omega)));clear hp hb hr2 ho2)|(go_at_call 52;refine(Qv P tb E _ (by decide+kernel) _ _ HPw2.out).mono ?_;rw[h3];rintro en w3⟨rfl,hb⟩;have HBw3:=hid hb;clear hb))
     exact⟨rfl,by rw[e5];exact⟨rfl,((HBo.out.trans (HBw1.out.o (fun _=>False)) (fun _ h=>h.elim)).trans HBw2.out (fun k hk=>(HOw.out k hk.symm).imp (fun h=>h.symm) (fun h=>by have:=HBo.out.size;have:=HBw1.out.size;omega))).trans (HBw3.out.o (fun _=>False)) (fun _ h=>h.elim)⟩⟩
    |ok u r3=>
     have hl3:=Qp h3
     cases h4:hd sBar r3 with
     |false=>
      have e5:Qo Qb f true ts= .ok (ys++y2) r3:=by rw[HEq.out,Zf,if_pos ha,h2];show PR.bind (PR.bind (PR.bind (need Qy r2) _) _) _=_;rw[h3];show PR.bind (if hd sBar r3=true then _ else _) _=_;rw[if_neg (by rw[h4];simp)];rfl
      go_wp2_with (first|(go_at_call 50;refine(JJ P tb E _ (by decide+kernel) _ _ (by assumption) HPa.out).mono ?_;rintro en w1⟨rfl,hp,hb⟩;have HPw1:=hid hp;have HBw1:=hid hb;clear hp hb)|(go_at_call 65;refine(HPP.out f3 rs.tail (by omega) (by omega) base (.slice la ln lc) vs (xs++ys) w1 hPb htb (lT hbW (lT HBo.out.size HBw1.out.size)) (by omega) (HBV.out _ HBw1.out) HPw1.out (HR.out.frame lyPr (HBw1.out.o _) hPb (fun _ h=>h.elim))).mono ?_;rw[h2];rintro en w2⟨⟨l2,vs2,rfl,hr2,ho2⟩,hp,hb⟩;obtain⟨la2,ln2,lc2,rfl⟩:=hr2.row.slice;have HPw2:=hid hp;have HBw2:=hid hb;have HR2:=hid hr2;have HO2:Hid (∀k,(Value.slice la2 ln2 lc2).ownBlock=some k->(Value.slice la0 ln0 lc0).ownBlock=some k\/W.heap.size<=k):=hid (fun k hk=>(ho2 k hk).elim (HOw.out k) (fun h=> .inr (by have:=HBo.out.size;have:=HBw1.out.size;omega)));clear hp hb hr2 ho2)|(go_at_call 52;refine(Qv P tb E _ (by decide+kernel) _ _ HPw2.out).mono ?_;rw[h3];rintro en w3⟨⟨_,rfl,_⟩,hp,hb⟩;have HPw3:=hid hp;have HBw3:=hid hb;clear hp hb)|(go_at_call 50;refine(Zm P tb E _ (by decide+kernel) _ _ (by assumption) HPw3.out).mono ?_;rintro en w4⟨rfl,hp,hb⟩;have HPw4:=hid hp;have HBw4:=hid hb;clear hp hb))
      go_ret
      rw[e5]
      have hb24:But P w2 w4:=HBw3.out.trans HBw4.out
      refine⟨⟨_,vs2,rfl,?_,HO2.out⟩,HPw4.out,((HBo.out.trans (HBw1.out.o (fun _=>False)) (fun _ h=>h.elim)).trans HBw2.out (fun k hk=>(HOw.out k hk.symm).imp (fun h=>h.symm) (fun h=>by have:=HBo.out.size;have:=HBw1.out.size;omega))).trans (hb24.o (fun _=>False)) (fun _ h=>h.elim)⟩
      rw[<-List.append_assoc]
      exact HR2.out.frame lyPr (hb24.o _) hPb (fun _ h=>h.elim)
     |true=>
      have e5:Qo Qb f true ts=(Qo Qb f3 true r3.tail).bind fun m r=> .ok (ys++y2++m) r:=by rw[HEq.out,Zf,if_pos ha,h2];show PR.bind (PR.bind (PR.bind (need Qy r2) _) _) _=_;rw[h3];show PR.bind (if hd sBar r3=true then _ else _) _=_;rw[if_pos h4];exact FH _
      have hl4:=QH h4
      go_wp2_with (first|(go_at_call 50;refine(JJ P tb E _ (by decide+kernel) _ _ (by assumption) HPa.out).mono ?_;rintro en w1⟨rfl,hp,hb⟩;have HPw1:=hid hp;have HBw1:=hid hb;clear hp hb)|(go_at_call 65;refine(HPP.out f3 rs.tail (by omega) (by omega) base (.slice la ln lc) vs (xs++ys) w1 hPb htb (lT hbW (lT HBo.out.size HBw1.out.size)) (by omega) (HBV.out _ HBw1.out) HPw1.out (HR.out.frame lyPr (HBw1.out.o _) hPb (fun _ h=>h.elim))).mono ?_;rw[h2];rintro en w2⟨⟨l2,vs2,rfl,hr2,ho2⟩,hp,hb⟩;obtain⟨la2,ln2,lc2,rfl⟩:=hr2.row.slice;have HPw2:=hid hp;have HBw2:=hid hb;have HR2:=hid hr2;have HO2:Hid (∀k,(Value.slice la2 ln2 lc2).ownBlock=some k->(Value.slice la0 ln0 lc0).ownBlock=some k\/W.heap.size<=k):=hid (fun k hk=>(ho2 k hk).elim (HOw.out k) (fun h=> .inr (by have:=HBo.out.size;have:=HBw1.out.size;omega)));clear hp hb hr2 ho2)|(go_at_call 52;refine(Qv P tb E _ (by decide+kernel) _ _ HPw2.out).mono ?_;rw[h3];rintro en w3⟨⟨_,rfl,_⟩,hp,hb⟩;have HPw3:=hid hp;have HBw3:=hid hb;clear hp hb)|(go_at_call 50;refine(JJ P tb E _ (by decide+kernel) _ _ (by assumption) HPw3.out).mono ?_;rintro en w4⟨rfl,hp,hb⟩;have HPw4:=hid hp;have HBw4:=hid hb;clear hp hb))
      have hb24:But P w2 w4:=HBw3.out.trans HBw4.out
      have HB24:=hid hb24
      clear hb24
      go_roundw
      case rel=>exact⟨ys++y2,r3.tail,vs2,_,_,_,f3,rfl,hid (by rw[<-List.append_assoc];exact HR2.out.frame lyPr (HB24.out.o _) hPb (fun _ h=>h.elim)),HPw4,hid (((HBo.out.trans (HBw1.out.o (fun _=>False)) (fun _ h=>h.elim)).trans HBw2.out (fun k hk=>(HOw.out k hk.symm).imp (fun h=>h.symm) (fun h=>by have:=HBo.out.size;have:=HBw1.out.size;omega))).trans (HB24.out.o (fun _=>False)) (fun _ h=>h.elim)),HO2,hid e5,hid (by omega),hid (by omega),hid (by simp only[List.length_append] at hln |-;omega)⟩
      case measure=>rw[HPw4.out.left,HLEFT.out];omega
  |false=>
   cases h2:QV Qb f3 rs with
   |bad er r2=>
    have e5:Qo Qb f true ts= .bad er r2:=by rw[HEq.out,Zf,if_neg (by rw[ha];simp),h2];rfl
    go_wp2_with (first|(go_at_call 50;refine(Zm P tb E _ (by decide+kernel) _ _ (by assumption) HPa.out).mono ?_;rintro en w1⟨rfl,hp,hb⟩;have HPw1:=hid hp;have HBw1:=hid hb;clear hp hb)|(go_at_call 91;refine(HS.out f3 rs (by omega) (by omega) w1 (HBV.out _ HBw1.out) HPw1.out).mono ?_;rw[h2];rintro en w2⟨rfl,hb⟩;have HBw2:=hid hb;clear hb))
    exact⟨rfl,by rw[e5];exact⟨rfl,HBo.out.trans ((HBw1.out.trans HBw2.out).o (fun _=>False)) (fun _ h=>h.elim)⟩⟩
   |ok p r2=>
    have hl2:r2.length<rs.length:=by
     have h:=Ui (isN:=Qb) f3 rs
     rw[h2] at h
     exact(JU _ _ _ _ _ h).1
    cases h4:hd sBar r2 with
    |false=>
     have e5:Qo Qb f true ts= .ok (ys++[p]) r2:=by rw[HEq.out,Zf,if_neg (by rw[ha];simp),h2];show PR.bind (if hd sBar r2=true then _ else _) _=_;rw[if_neg (by rw[h4];simp)];rfl
     go_wp2_with (first|(go_at_call 50;refine(Zm P tb E _ (by decide+kernel) _ _ (by assumption) HPa.out).mono ?_;rintro en w1⟨rfl,hp,hb⟩;have HPw1:=hid hp;have HBw1:=hid hb;clear hp hb)|(go_at_call 91;refine(HS.out f3 rs (by omega) (by omega) w1 (HBV.out _ HBw1.out) HPw1.out).mono ?_;rw[h2];rintro en w2⟨⟨v,rfl,hg⟩,hp,hb⟩;obtain⟨qa,qn,qc,aa,an,ac,ta,tn,tc,ua,un,uc,ka,kn,kc,rfl⟩:=hg.open;have HPw2:=hid hp;have HBw2:=hid hb;have HG:=hid hg;clear hp hb hg;obtain⟨W3,hW3⟩:∃W3,w2.alloc (.cells (gP p qa qn qc aa an ac ta tn tc ua un uc ka kn kc) 31)=W3:=⟨_,rfl⟩;have hb3:Below w2.heap.size w2 W3:=(by rw[<-hW3];exact bR.alloc lR _);have HX3:=hid (show W3.heap[w2.heap.size]? =some (.cells (gP p qa qn qc aa an ac ta tn tc ua un uc ka kn kc) 31 (0,0)) by rw[<-hW3];exact World.alloc_heap_new _ _);have hb03:But P V0 W3:=(HBw1.out.trans HBw2.out).to hb3;have HRW:=hid (HR.out.frame lyPr (hb03.o _) hPb (O':=fun _=>False) (fun _ h=>h.elim));have HV3:Hid (PrVal (fun k=>base<=k/\k<W3.heap.size/\¬False/\some k≠(Value.slice la ln lc).ownBlock) W3 (.agg (gP p qa qn qc aa an ac ta tn tc ua un uc ka kn kc)) p):=hid ((PrVal.keep ((But.of (P:=P) hb3).keeps (fun k hk=>⟨hk.2,by have:=HBo.out.size;have:=HBw1.out.size;omega⟩)) HG.out).mono (fun k hk=>⟨by have:=HBo.out.size;have:=HBw1.out.size;omega,lL hk.2 hb3.size,fun h=>h,fun e=>by have:=(HR.out.row.lt k e.symm).2;have:=HBw1.out.size;omega⟩));have HB03:=hid hb03;have HP3:=hid (HPw2.out.to hb3);have HW3:=hid hW3;have hbW3:base<=W3.heap.size:=(by have:=hb03.size;have:=HBo.out.size;omega);clear hb3 hb03 hW3)|(rw[HW3.out];at_builtin;refine Ji NM rfl _ _ rfl rfl HRW.out.row (some ⟨w2.heap.size,0,none⟩) 1 1 [[.int .i64 p.k,.string p.c,.string p.x,.slice qa qn qc,.slice aa an ac,.int .i64 p.t.k,.int .i64 p.t.p,.string p.t.n,.int .i64 p.t.s,.slice ta tn tc,.slice ua un uc,.slice ka kn kc]] rfl rfl ?_ (JY HX3.out) ?_ ?_ hbW3 ?_))
     ·intro e he;rw[mS he];rfl
     ·intro e he u hu;rw[mS he] at hu;exact lyPr.one HV3.out u hu
     ·rw[List.length_map,List.length_singleton,HRW.out.len];omega
     intro ga gn gc w3 hr6 hg6 hq6
     have hrow6:=HRW.out.grow lyPr HV3.out hr6 hg6 hq6 (fun _ h=>h.elim)
     have HR3:Hid (LRow 31 12 base (fun B w v p=>PrVal B w v p) (fun _=>False) w3 (.slice ga gn gc) (vs++[.agg (gP p qa qn qc aa an ac ta tn tc ua un uc ka kn kc)]) (xs++ys++[p])):=hid hrow6
     have HBO3:Hid (ButO P (fun k=>some k=(Value.slice la0 ln0 lc0).ownBlock) W w3):=hid ((HBo.out.trans (HB03.out.o (fun _=>False)) (fun _ h=>h.elim)).trans (ButO.grown hg6 P) (fun k hk=>(HOw.out k hk.symm).imp (fun h=>h.symm) (fun h=>h)))
     have HO3:Hid (∀k,(Value.slice ga gn gc).ownBlock=some k->(Value.slice la0 ln0 lc0).ownBlock=some k\/W.heap.size<=k):=hid (fun k hk=>by
      rcases hq6 with h|h
      ·exact HOw.out k (h▸hk)
      ·have e:=Option.some.inj (h.symm.trans hk)
       have:=HBo.out.size
       have:=HB03.out.size
       exact .inr (by omega))
     have HPw3:=hid (HP3.out.grown hg6 (fun e=>by have:=HLR2.out P e.symm;omega) (fun e=>by have:=HLR2.out tb e.symm;omega))
     clear hr6 hg6 hq6 hrow6
     go_wp2_with (go_at_call 50;refine(Zm P tb E _ (by decide+kernel) _ _ (by assumption) HPw3.out).mono ?_;rintro en w4⟨rfl,hp,hb⟩;have HPw4:=hid hp;have HBw4:=hid hb;clear hp hb)
     go_ret
     rw[e5]
     refine⟨⟨_,vs++[.agg (gP p qa qn qc aa an ac ta tn tc ua un uc ka kn kc)],rfl,?_,HO3.out⟩,HPw4.out,HBO3.out.trans (HBw4.out.o (fun _=>False)) (fun _ h=>h.elim)⟩
     rw[<-List.append_assoc]
     exact HR3.out.frame lyPr (HBw4.out.o _) hPb (fun _ h=>h.elim)
    |true=>
     have e5:Qo Qb f true ts=(Qo Qb f3 true r2.tail).bind fun m r=> .ok (ys++[p]++m) r:=by rw[HEq.out,Zf,if_neg (by rw[ha];simp),h2];show PR.bind (if hd sBar r2=true then _ else _) _=_;rw[if_pos h4];exact FH _
     have hl4:=QH h4
     go_wp2_with (first|(go_at_call 50;refine(Zm P tb E _ (by decide+kernel) _ _ (by assumption) HPa.out).mono ?_;rintro en w1⟨rfl,hp,hb⟩;have HPw1:=hid hp;have HBw1:=hid hb;clear hp hb)|(go_at_call 91;refine(HS.out f3 rs (by omega) (by omega) w1 (HBV.out _ HBw1.out) HPw1.out).mono ?_;rw[h2];rintro en w2⟨⟨v,rfl,hg⟩,hp,hb⟩;obtain⟨qa,qn,qc,aa,an,ac,ta,tn,tc,ua,un,uc,ka,kn,kc,rfl⟩:=hg.open;have HPw2:=hid hp;have HBw2:=hid hb;have HG:=hid hg;clear hp hb hg;obtain⟨W3,hW3⟩:∃W3,w2.alloc (.cells (gP p qa qn qc aa an ac ta tn tc ua un uc ka kn kc) 31)=W3:=⟨_,rfl⟩;have hb3:Below w2.heap.size w2 W3:=(by rw[<-hW3];exact bR.alloc lR _);have HX3:=hid (show W3.heap[w2.heap.size]? =some (.cells (gP p qa qn qc aa an ac ta tn tc ua un uc ka kn kc) 31 (0,0)) by rw[<-hW3];exact World.alloc_heap_new _ _);have hb03:But P V0 W3:=(HBw1.out.trans HBw2.out).to hb3;have HRW:=hid (HR.out.frame lyPr (hb03.o _) hPb (O':=fun _=>False) (fun _ h=>h.elim));have HV3:Hid (PrVal (fun k=>base<=k/\k<W3.heap.size/\¬False/\some k≠(Value.slice la ln lc).ownBlock) W3 (.agg (gP p qa qn qc aa an ac ta tn tc ua un uc ka kn kc)) p):=hid ((PrVal.keep ((But.of (P:=P) hb3).keeps (fun k hk=>⟨hk.2,by have:=HBo.out.size;have:=HBw1.out.size;omega⟩)) HG.out).mono (fun k hk=>⟨by have:=HBo.out.size;have:=HBw1.out.size;omega,lL hk.2 hb3.size,fun h=>h,fun e=>by have:=(HR.out.row.lt k e.symm).2;have:=HBw1.out.size;omega⟩));have HB03:=hid hb03;have HP3:=hid (HPw2.out.to hb3);have HW3:=hid hW3;have hbW3:base<=W3.heap.size:=(by have:=hb03.size;have:=HBo.out.size;omega);clear hb3 hb03 hW3)|(rw[HW3.out];at_builtin;refine Ji NM rfl _ _ rfl rfl HRW.out.row (some ⟨w2.heap.size,0,none⟩) 1 1 [[.int .i64 p.k,.string p.c,.string p.x,.slice qa qn qc,.slice aa an ac,.int .i64 p.t.k,.int .i64 p.t.p,.string p.t.n,.int .i64 p.t.s,.slice ta tn tc,.slice ua un uc,.slice ka kn kc]] rfl rfl ?_ (JY HX3.out) ?_ ?_ hbW3 ?_))
     ·intro e he;rw[mS he];rfl
     ·intro e he u hu;rw[mS he] at hu;exact lyPr.one HV3.out u hu
     ·rw[List.length_map,List.length_singleton,HRW.out.len];omega
     intro ga gn gc w3 hr6 hg6 hq6
     have hrow6:=HRW.out.grow lyPr HV3.out hr6 hg6 hq6 (fun _ h=>h.elim)
     have HR3:Hid (LRow 31 12 base (fun B w v p=>PrVal B w v p) (fun _=>False) w3 (.slice ga gn gc) (vs++[.agg (gP p qa qn qc aa an ac ta tn tc ua un uc ka kn kc)]) (xs++ys++[p])):=hid hrow6
     have HBO3:Hid (ButO P (fun k=>some k=(Value.slice la0 ln0 lc0).ownBlock) W w3):=hid ((HBo.out.trans (HB03.out.o (fun _=>False)) (fun _ h=>h.elim)).trans (ButO.grown hg6 P) (fun k hk=>(HOw.out k hk.symm).imp (fun h=>h.symm) (fun h=>h)))
     have HO3:Hid (∀k,(Value.slice ga gn gc).ownBlock=some k->(Value.slice la0 ln0 lc0).ownBlock=some k\/W.heap.size<=k):=hid (fun k hk=>by
      rcases hq6 with h|h
      ·exact HOw.out k (h▸hk)
      ·have e:=Option.some.inj (h.symm.trans hk)
       have:=HBo.out.size
       have:=HB03.out.size
       exact .inr (by omega))
     have HPw3:=hid (HP3.out.grown hg6 (fun e=>by have:=HLR2.out P e.symm;omega) (fun e=>by have:=HLR2.out tb e.symm;omega))
     clear hr6 hg6 hq6 hrow6
     go_wp2_with (go_at_call 50;refine(JJ P tb E _ (by decide+kernel) _ _ (by assumption) HPw3.out).mono ?_;rintro en w4⟨rfl,hp,hb⟩;have HPw4:=hid hp;have HBw4:=hid hb;clear hp hb)
     go_roundw
     case rel=>exact⟨ys++[p],r2.tail,vs++[.agg (gP p qa qn qc aa an ac ta tn tc ua un uc ka kn kc)],_,_,_,f3,rfl,hid (by rw[<-List.append_assoc];exact HR3.out.frame lyPr (HBw4.out.o _) hPb (fun _ h=>h.elim)),HPw4,hid (HBO3.out.trans (HBw4.out.o (fun _=>False)) (fun _ h=>h.elim)),HO3,hid e5,hid (by omega),hid (by omega),hid (by simp only[List.length_append,List.length_singleton] at hln |-;omega)⟩
     case measure=>rw[HPw4.out.left,HLEFT.out];omega
theorem Uh(P tb:Nat)(E:Int)(ts:List Tk)(B:Nat)(w:World)(he:Env B w)(_:B<=P)(h:PaIs P tb E ts w)(f:Nat)(hPt:MH P tb E B f ts):
 Calls Tryz.prog 31 #[.pointer (some ⟨P,0,none⟩)] w (Parsed P tb E w (QT Qb f ts) (GPr w.heap.size)):=by
 obtain⟨W1,hW1⟩:∃W1,w.alloc (.cells z12 31)=W1:=⟨_,rfl⟩
 have hb1:=(made hW1).1
 have x1:=(made hW1).2
 have hs1:w.heap.size<W1.heap.size:=(gl x1)
 have hP:P<w.heap.size:=h.lt
 have htb:tb≠w.heap.size:=Nat.ne_of_lt h.tlt
 have HTB:=hid h.tlt
 have HP:Hid (PaIs P tb E ts W1):=hid (h.to hb1)
 have HB:Hid (But P W1 W1):=hid (But.refl _ _)
 have HW1:=hid hW1
 have HB1:=hid hb1
 have HX1:=hid x1
 have HE:=hid (he.to hb1)
 clear hW1 hb1 x1 he h
 unfold QT
 have HPT:=hid hPt
 have hlen:ts.length<=1000000:=HP.out.choose_spec.choose_spec.2.2.2.2.1
 clear hPt
 cases h1:Qo Qb f true ts with
 |bad er r=>
  show Calls _ _ _ _ (Parsed P tb E w (PR.bad er r) _)
  go_enter Tryz.func31,Tryz.ntmps31
  go_upto_region 1 with fail
  rw[HW1.out]
  go_wp2_with (first|(go_at_call 65;refine(HPT.out W1.heap.size sN [] [] W1 (by omega) (by have:=HTB.out;omega) lR (by simpa using hlen) HE.out HP.out (LRow.nil _ _ _ _ _ _)).mono ?_;rw[h1];rintro en wn⟨rfl,hb⟩;replace HB:=hid (HB.out.trans (hb.but (fun k _ e=>by cases e)));clear hb))
  exact⟨rfl,rfl,(But.of HB1.out).trans HB.out⟩
 |ok ys r=>
  show Calls _ _ _ _ (Parsed P tb E w (PR.ok (ZQ ys) r) _)
  by_cases hone:ys.length=1
  ·obtain⟨p,rfl⟩:∃p,ys=[p]:=by
    match ys,hone with
    |[p],_=>exact⟨p,rfl⟩
   show Calls _ _ _ _ (Parsed P tb E w (PR.ok p r) _)
   go_enter Tryz.func31,Tryz.ntmps31
   go_upto_region 1 with fail
   rw[HW1.out]
   go_wp2_with (first|(go_at_call 65;refine(HPT.out W1.heap.size sN [] [] W1 (by omega) (by have:=HTB.out;omega) lR (by simpa using hlen) HE.out HP.out (LRow.nil _ _ _ _ _ _)).mono ?_;rw[h1];rintro en wn⟨⟨l',vs',rfl,hr,-⟩,hp,hb⟩;rw[List.nil_append] at hr;obtain⟨g,cap,rfl,hg1,hg2,hg3⟩:∃g cap,l'= .slice (some ⟨g,0,none⟩) 1 cap/\W1.heap.size<=g/\g<wn.heap.size/\1<=cap:=hr.parts.resolve_left (fun h=>by cases h.2);obtain⟨u,hu,hv⟩:=hr.at (j:=0) (x:=p) rfl;have hc:=(fun i z (hz:(cl u)[i]? =some z)=>hr.cells rfl hu (i:=i) (z:=z) hz);obtain⟨qa,qn,qc,aa,an,ac,ta,tn,tc,ua,un,uc,ka,kn,kc,rfl⟩:=PrVal.open hv;have HG:Hid (GPr W1.heap.size wn p _):=hid (PrVal.mono (fun k hk=>⟨hk.1,hk.2.1⟩) hv);have d0:=hc 0 _ rfl;have d1:=hc 1 _ rfl;have d2:=hc 2 _ rfl;have d3:=hc 3 _ rfl;have d4:=hc 4 _ rfl;have d5:=hc 5 _ rfl;have d6:=hc 6 _ rfl;have d7:=hc 7 _ rfl;have d8:=hc 8 _ rfl;have d9:=hc 9 _ rfl;have d10:=hc 10 _ rfl;have d11:=hc 11 _ rfl;simp only[Nat.zero_mul,Nat.zero_add] at d0 d1 d2 d3 d4 d5 d6 d7 d8 d9 d10 d11;clear hc hu hv hr;replace HP:=hid hp;replace HB:=hid (HB.out.trans (hb.but (fun k _ e=>by cases e)));clear hp hb;have hx9:=(HB.out.block w.heap.size hs1 (Nat.ne_of_gt hP)).trans HX1.out;obtain⟨⟨q0,q1,q2,q3,q4,q5,q6,q7,q8,q9,q10,q11⟩,z0,z1,z2,z3,z4,z5,z6,z7,z8,z9,z10,z11⟩:=c12p hx9;have HX9:=hid hx9;clear hx9))
   have hx8:=JZ HX9.out (.int .i64 p.k) (.string p.c) (.string p.x) (.slice qa qn qc) (.slice aa an ac) (.int .i64 p.t.k) (.int .i64 p.t.p) (.string p.t.n) (.int .i64 p.t.s) (.slice ta tn tc) (.slice ua un uc) (.slice ka kn kc)
   obtain⟨⟨y0,y1,y2,y3,y4,y5,y6,y7,y8,y9,y10,y11⟩,-⟩:=c12p hx8
   refine bodyPost_ret (v:= .agg (gP p qa qn qc aa an ac ta tn tc ua un uc ka kn kc)) (by simp[results,Tryz.results31,go_sem,y0,y1,y2,y3,y4,y5,y6,y7,y8,y9,y10,y11]) rfl ?_
   exact⟨⟨_,rfl,(HG.out.put12 hs1 (.int .i64 p.k) (.string p.c) (.string p.x) (.slice qa qn qc) (.slice aa an ac) (.int .i64 p.t.k) (.int .i64 p.t.p) (.string p.t.n) (.int .i64 p.t.s) (.slice ta tn tc) (.slice ua un uc) (.slice ka kn kc)).mono (Nat.le_of_lt hs1)⟩,HP.out.oth (X:=w.heap.size) (fun j hj=>QN hj (.int .i64 p.k) (.string p.c) (.string p.x) (.slice qa qn qc) (.slice aa an ac) (.int .i64 p.t.k) (.int .i64 p.t.p) (.string p.t.n) (.int .i64 p.t.s) (.slice ta tn tc) (.slice ua un uc) (.slice ka kn kc)) (QF _ _ (.int .i64 p.k) (.string p.c) (.string p.x) (.slice qa qn qc) (.slice aa an ac) (.int .i64 p.t.k) (.int .i64 p.t.p) (.string p.t.n) (.int .i64 p.t.s) (.slice ta tn tc) (.slice ua un uc) (.slice ka kn kc)) (Nat.ne_of_gt hP) htb,((But.of HB1.out).trans HB.out).put12 lR (.int .i64 p.k) (.string p.c) (.string p.x) (.slice qa qn qc) (.slice aa an ac) (.int .i64 p.t.k) (.int .i64 p.t.p) (.string p.t.n) (.int .i64 p.t.s) (.slice ta tn tc) (.slice ua un uc) (.slice ka kn kc)⟩
  ·have hpar:ZQ ys= .mk 7 ⟨#[]⟩ ⟨#[]⟩ [] [] zT ys:=by
    match ys,hone with
    |[],_=>rfl
    |[p],h=>exact absurd rfl h
    |_::_::_,_=>rfl
   rw[hpar]
   go_enter Tryz.func31,Tryz.ntmps31
   go_upto_region 1 with fail
   rw[HW1.out]
   go_wp2_with (first|(go_at_call 65;refine(HPT.out W1.heap.size sN [] [] W1 (by omega) (by have:=HTB.out;omega) lR (by simpa using hlen) HE.out HP.out (LRow.nil _ _ _ _ _ _)).mono ?_;rw[h1];rintro en wn⟨⟨l',vs',rfl,hr,-⟩,hp,hb⟩;rw[List.nil_append] at hr;obtain⟨ka,kn,kc,rfl⟩:=hr.row.slice;have hkn:kn=ys.length:=(by obtain⟨_,_,_,e,h,_⟩:=hr.row.src;simp only[Value.slice.injEq] at e;rw[e.2.1,h,List.length_map,hr.len]);have hk1:((kn:Int)==1)=false:=(by simp;omega);have hk2:decide ((kn:Int)=1)=false:=(by simp;omega);have hk3:decide (kn=1)=false:=(by simp;omega);have HK:Hid (PrSl (fun k=>W1.heap.size<=k/\k<wn.heap.size) wn (.slice ka kn kc) ys):=hid (PrSl.mono (fun k hk=>⟨hk.1,hk.2.1⟩) (hr.prs (by have:=(JU _ _ _ _ _ h1).2;unfold maxLen;omega)));clear hr hkn;replace HP:=hid hp;replace HB:=hid (HB.out.trans (hb.but (fun k _ e=>by cases e)));clear hp hb;have hx9:=(HB.out.block w.heap.size hs1 (Nat.ne_of_gt hP)).trans HX1.out;obtain⟨⟨q0,q1,q2,q3,q4,q5,q6,q7,q8,q9,q10,q11⟩,z0,z1,z2,z3,z4,z5,z6,z7,z8,z9,z10,z11⟩:=c12p hx9;have HX9:=hid hx9;clear hx9))
   have hg5:GPr W1.heap.size wn (.mk 7 ⟨#[]⟩ ⟨#[]⟩ [] [] zT ys) (.agg (cN 7 ⟨#[]⟩ ⟨#[]⟩ sN sN (.slice ka kn kc))):=GPr.node (t:=zT) (Nat.zero_le _) (Nat.zero_le _) (Jv _ _) (JK _ _) (YF _ _) HK.out
   have hx8:=JZ HX9.out (.int .i64 7) tE tE sN sN iZ iZ tE iZ sN sN (.slice ka kn kc)
   obtain⟨⟨y0,y1,y2,y3,y4,y5,y6,y7,y8,y9,y10,y11⟩,-⟩:=c12p hx8
   refine bodyPost_ret (v:= .agg (cN 7 ⟨#[]⟩ ⟨#[]⟩ sN sN (.slice ka kn kc))) (by simp[results,Tryz.results31,go_sem,y0,y1,y2,y3,y4,y5,y6,y7,y8,y9,y10,y11]) rfl ?_
   exact⟨⟨_,rfl,(hg5.put12 hs1 (.int .i64 7) tE tE sN sN iZ iZ tE iZ sN sN (.slice ka kn kc)).mono (Nat.le_of_lt hs1)⟩,HP.out.oth (X:=w.heap.size) (fun j hj=>QN hj (.int .i64 7) tE tE sN sN iZ iZ tE iZ sN sN (.slice ka kn kc)) (QF _ _ (.int .i64 7) tE tE sN sN iZ iZ tE iZ sN sN (.slice ka kn kc)) (Nat.ne_of_gt hP) htb,((But.of HB1.out).trans HB.out).put12 lR (.int .i64 7) tE tE sN sN iZ iZ tE iZ sN sN (.slice ka kn kc)⟩
theorem SessOK.mono{P tb:Nat}{E:Int}{B:Nat}{S:List Tk->PR Ty}{n m:Nat}(h:SessOK P tb E B S n)(hm:m<=n):SessOK P tb E B S m:=fun ts W hl=>h ts W (lL hl hm)
theorem GZ(p:PR Pr):((p.bind fun p r=>PR.ok [p] r).bind fun l r=>PR.ok (ZQ l) r)=p:=by cases p <;> rfl
theorem Vj(f:Nat)(ts:List Tk):QV Qb (f+1) ts=Yr (QT Qb f) (YV Qb (Ql Qb f) (QV Qb f)) (fun c r=>QZ Qb (QT Qb f) (QV Qb f) f c r) ts:=by
 unfold QV Yr
 rw[Qo]
 split
 ·rfl
 split
 ·show PR.bind (PR.bind (Qo Qb f true ts.tail) _) _=PR.bind (QT Qb f ts.tail) _
  unfold QT
  cases Qo Qb f true ts.tail with
  |bad e r=>rfl
  |ok l r=>
   show PR.bind (PR.bind (need Qy r) _) _=PR.bind (need Qy r) _
   cases need Qy r <;> rfl
 split
 ·exact GZ _
 ·show PR.bind (PR.bind (Qk Qb ts) _) _=PR.bind (Qk Qb ts) _
  cases Qk Qb ts with
  |bad e r=>rfl
  |ok c r=>exact GZ _
theorem Fq(f:Nat):Qr (QV Qb f):=fun ts x r h=>by
 obtain⟨l,s,h1,h2⟩:=PR.bind_ok h
 cases h2
 exact(JU _ _ _ _ _ h1).1
theorem Uw(f:Nat):Qr (QT Qb f):=fun ts x r h=>by
 obtain⟨l,s,h1,h2⟩:=PR.bind_ok h
 cases h2
 exact(JU _ _ _ _ _ h1).1
theorem Tx(P tb:Nat)(E:Int)(B:Nat)(hBP:B<=P):∀f,(∀ts,2*ts.length+1<=f->La P tb E B f ts)/\(∀ts,2*ts.length+2<=f->MH P tb E B f ts):=by
 intro f
 induction f using Nat.strongRecOn with
 |_ f ih=>
  refine⟨fun ts hf=>?_,fun ts hf=>DE P tb E B hBP f ts hf (fun f2 ts2 h1 h2=>(ih f2 h1).1 ts2 h2) (fun f2 ts2 h1 h2=>(ih f2 h1).2 ts2 h2)⟩
  obtain⟨f,rfl⟩:∃g,f=g+1:=⟨f-1,by omega⟩
  intro W he hp
  have hS:∀n,n<=ts.length->KQ P tb E B (QV Qb f) n:=fun n hn ts2 W2 h2 he2 hp2=>(ih f (by omega)).1 ts2 (by omega) W2 he2 hp2
  have hPr:∀n,n<=ts.length->Nt P tb E B (QT Qb f) n:=fun n hn ts2 W2 h2 he2 hp2=>Uh P tb E ts2 B W2 he2 hBP hp2 f ((ih f (by omega)).2 ts2 (by omega))
  rw[Vj]
  refine Ts P tb E ts B W he hBP hp _ _ _ ts.length lR (hPr _ lR) ?_ ?_
  ·intro ts2 W2 h2 he2 hp2
   exact Sn P tb E ts2 B W2 he2 hBP hp2 (Ql Qb f) (ZT f) (QV Qb f) ts.length h2 ((Xv P tb E B hBP f).mono (by omega)) (hS _ lR)
  ·intro c ts2 W2 hc h2 he2 hp2
   exact DH P tb E ts2 B W2 he2 hBP hp2 (QT Qb f) (QV Qb f) ts.length h2 (hPr _ lR) (hS _ lR) (Uw f) f (by omega) c hc
theorem Vk(P tb:Nat)(E:Int)(B:Nat)(hBP:B<=P)(f n:Nat)(hn:2*n<=f):Nt P tb E B (QT Qb f) n:=fun ts W h he hp=>Uh P tb E ts B W he hBP hp f ((Tx P tb E B hBP f).2 ts (by omega))
end Go.Proofs.YtmnbheplkidfaaaGreatDoor
namespace Go.Proofs.YtmnbheplkidfaaaGreatDoor
open Go.Lib (hid)
open Go.RowKit Go.Shelf
def YS(PF:List Tk->PR Pr)(ts:List Tk):PR Pr:=(need sEq ts).bind fun _ r=>(PF r).bind fun p r=>(need Up r).bind fun _ r=> .ok p r
theorem Vs(P tb:Nat)(E:Int)(ts:List Tk)(B:Nat)(w:World)(he:Env B w)(hBP:B<=P)(h:PaIs P tb E ts w)(PF:List Tk->PR Pr)(n:Nat)(hn:ts.length<=n)(hF:Nt P tb E B PF n):
 Calls Tryz.prog 53 #[.pointer (some ⟨P,0,none⟩)] w (Parsed P tb E w (YS PF ts) (GPr w.heap.size)):=by
 obtain⟨W1,HW1,hs1,hP,htb,HTB,HP,HB,HB1,HX1,HE⟩:=pro (cN 0 ⟨#[]⟩ ⟨#[]⟩ sN sN sN) 31 he h
 clear he h
 have HF:=hid hF
 clear hF
 obtain⟨q,HQ⟩:=exq (YS PF ts)
 rw[HQ.out]
 go_enter Tryz.func53,Tryz.ntmps53
 go_upto_region 1 with fail
 rw[HW1.out]
 go_upto_region 3 with(first|(go_at_call 52;refine(expC HP HB).mono ?_;rintro _ wn (⟨_,_,h0,rfl,l0,HP,HB⟩|⟨er,r,h0,rfl,HB⟩))|(go_at_call 31;refine(HF.out _ _ (by omega) (HE.out.but HB.out hBP) HP.out).mono ?_;rintro _ wn h;have hz:=HB.out.size;rcases Parsed.part HB h with⟨p,_,v,h0,rfl,hg,HP,HB⟩|⟨er,r,h0,rfl,HB⟩;obtain⟨la,ln,lc,aa,an,ac,ta,tn,tc,ua,un,uc,ka,kn,kc,rfl⟩:=hg.open;have HG:=hid (hg.mono hz);clear hg))
 any_goals (first|(obtain rfl:q= .bad er r:=HQ.out.symm.trans (by simp[YS,PR.bind, *]);exact⟨rfl,rfl,(But.of HB1.out).trans HB.out⟩)|fail)
 obtain⟨W4,HW4,hl4,hn4,hsz,HB4,HP,HB,HC,HX4⟩:=box (gP p la ln lc aa an ac ta tn tc ua un uc ka kn kc) 31 HP HB (by omega)
 rw[HW4.out]
 have HGT:=hid (HG.out.but (But.of (P:=P) HB4.out) (Nat.lt_trans hP hs1))
 clear HG HW4 HB4
 obtain⟨T6,hT6⟩:=exw wn.heap.size
 rw[hT6] at HX4 hl4 hn4 hsz |-
 clear hT6
 go_wp2_with (go_at_call 52;refine(expC HP HC).mono ?_;rintro _ wn (⟨_,r,h0,rfl,l0,HP,HC⟩|⟨er,r,h0,rfl,HC⟩) <;> (replace HB:=hid (HB.out.trans HC.out);obtain⟨⟨⟨d0,d1,d2,d3,d4,d5,d6,d7,d8,d9,d10,d11⟩,-⟩,-⟩:=ZZ HX4 HC hl4 (by omega);obtain⟨⟨⟨q0,q1,q2,q3,q4,q5,q6,q7,q8,q9,q10,q11⟩,z0,z1,z2,z3,z4,z5,z6,z7,z8,z9,z10,z11⟩,HX9⟩:=ZZ HX1 HB hs1 hP))
 any_goals (first|(obtain rfl:q= .bad er r:=HQ.out.symm.trans (by simp[YS,PR.bind, *]);exact⟨rfl,rfl,(But.of HB1.out).trans HB.out⟩)|fail)
 obtain rfl:q= .ok (p) r:=HQ.out.symm.trans (by simp[YS,PR.bind, *] <;> rfl)
 refine bodyPost_ret ?_ rfl (Zn (HGT.out.but HC.out (Nat.lt_trans hP hs1)) hs1 hP htb HP HB1 HB)
 simp[results,Tryz.results53,go_sem,y12 HX9]
end Go.Proofs.YtmnbheplkidfaaaGreatDoor
