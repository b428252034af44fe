/- Parsing: a text's tokens. (and what follows from it) -/
import Derived.Test.YtmnbheplkidfaaaGreatDoorPw12
set_option maxHeartbeats 16000000
set_option maxRecDepth 100000
namespace Go.Proofs.YtmnbheplkidfaaaGreatDoor
open Go.RowKit Go.Deep Go.Shelf
def its(s:ByteArray):List Tok.Item:=Tok.items (s.size+1) s.data.toList (Lx.skipG false s.data.toList)
def Scans(s:ByteArray):List Tok.Item ⊕ (Int×Int)->Prop
 | .inl I=>s.size<=65536/\its s=I/\∀x∈I,x.e=0
 | .inr (e,p)=>(65536<s.size/\e=2/\p=65536)\/(s.size<=65536/\∃q x,its s=q++[x]/\x.e=e/\x.p=p/\x.e≠0)
theorem WM(s:ByteArray):∃r,Scans s r:=by
 by_cases hl:65536<s.size
 ·exact⟨.inr (2,65536),.inl ⟨hl,rfl,rfl⟩⟩
 ·rcases Tok.items_either s with⟨q,x,hx,hxe,hq⟩|hok
  ·exact⟨.inr (x.e,x.p),.inr ⟨by omega,q,x,hx,rfl,rfl,hxe⟩⟩
  ·exact⟨.inl (its s),by omega,rfl,hok⟩
theorem Scans.ne{s:ByteArray}{e p:Int}(h:Scans s (.inr (e,p))):e≠0:=by
 rcases h with⟨_,rfl,_⟩|⟨_,q,x,_,rfl,_,h⟩
 ·decide
 ·exact h
theorem YY{B:Nat}{w W:World}(h:Tok.Env B w)(hb:Below w.heap.size w W):Tok.Env B W:=h.below (hb.mono h.size)
theorem Scans.tokBad{s:ByteArray}{e p:Int}(h:Scans s (.inr (e,p))){B:Nat}{w:World}(he:Tok.Env B w):GY s e p w:=by
 intro W hW
 rcases h with⟨hl,rfl,rfl⟩|⟨hs,q,x,hx,rfl,rfl,hne⟩
 ·exact Tok.tokens_long s hl W
 ·exact Tok.tokens_bad s hs q x hx hne B W (YY he hW)
theorem Scans.tokOK{s:ByteArray}{I:List Tok.Item}(h:Scans s (.inl I)){B:Nat}{w:World}(he:Tok.Env B w):Wu s I w:=by
 intro W hW
 obtain⟨hs,hI,hok⟩:=h
 refine(Tok.tokens_any s hs B W (YY he hW)).mono ?_
 rw[show Tok.items (s.size+1) s.data.toList (Lx.skipG false s.data.toList)=I from hI]
 rintro e W'⟨⟨q,x,rfl,hxe,rfl⟩|⟨_,v,rfl,hrow,_⟩,hb⟩
 ·exact absurd (hok x (by simp)) hxe
 ·exact⟨v,rfl,hrow,hb⟩
theorem Scans.refBad{s:ByteArray}{e p:Int}(h:Scans s (.inr (e,p)))(w:World):
 Calls Tryz.prog 19 #[.string s] w fun en W'=>en= .returned (.tuple #[.slice none 0 0,.int .i64 e,.int .i64 p])/\Below w.heap.size w W':=by
 rcases h with⟨hl,rfl,rfl⟩|⟨hs,q,x,hx,rfl,rfl,hne⟩
 ·refine(Tok.rtokens_long s hl w).mono ?_
  rintro e w'⟨rfl,rfl⟩
  exact⟨rfl,bR⟩
 ·refine(Tok.rtokens_any s hs _ hx w).mono ?_
  rintro e w'⟨⟨q',x',h,_,rfl⟩|⟨hall,_⟩,hb⟩
  ·obtain⟨_,h⟩:=List.append_inj' h rfl
   cases h
   exact⟨rfl,hb⟩
  ·exact absurd (hall x (by simp)) hne
theorem Scans.refOK{s:ByteArray}{I:List Tok.Item}(h:Scans s (.inl I))(w:World):
 Calls Tryz.prog 19 #[.string s] w fun en W'=>∃v,en= .returned (.tuple #[v,.int .i64 0,.int .i64 0])/\W'.ownsRow w.heap.size 93 4 v I.length (Tok.rowOf I)/\Below w.heap.size w W':=by
 obtain⟨hs,hI,hok⟩:=h
 refine(Tok.rtokens_any s hs _ hI w).mono ?_
 rintro e w'⟨⟨q,x,rfl,hxe,rfl⟩|⟨_,v,rfl,hrow⟩,hb⟩
 ·exact absurd (hok x (by simp)) hxe
 ·exact⟨v,rfl,hrow,hb⟩
theorem NR:∀(f:Nat) (L:List UInt8) (a:Nat) (x:Tok.Item),x∈Tok.items f L a->x.t.size<=L.length
 |0,_,_,_,h=>by cases h
 |f+1,L,a,x,h=>by
  rw[Tok.items] at h
  split at h
  ·split at h
   ·rw[mS h];exact Nat.zero_le _
   ·rcases List.mem_cons.1 h with rfl|h
    ·show((L.drop a).take _).length<=_
     rw[List.length_take,List.length_drop];omega
    ·exact NR f L _ x h
  ·cases h
theorem Scans.txt{s:ByteArray}{I:List Tok.Item}(h:Scans s (.inl I)):∀x∈I,x.t.size<=maxLen:=by
 obtain⟨hs,hI,_⟩:=h
 intro x hx
 rw[<-hI] at hx
 have:=NR _ _ _ _ hx
 have e:s.data.toList.length=s.size:=rfl
 unfold maxLen
 omega
theorem Scans.len{s:ByteArray}{I:List Tok.Item}(h:Scans s (.inl I)):I.length<=65537:=by
 obtain⟨hs,hI,_⟩:=h
 have:=Tok.items_len (s.size+1) s.data.toList (Lx.skipG false s.data.toList)
 rw[show Tok.items (s.size+1) s.data.toList (Lx.skipG false s.data.toList)=I from hI] at this
 omega
end Go.Proofs.YtmnbheplkidfaaaGreatDoor
namespace Go.Proofs.YtmnbheplkidfaaaGreatDoor
def Meas{α:Type}(μ:α->Nat)(I:α->Prop)(F:List Tk->PR α):Prop:=∀ts x r,F ts= .ok x r->I x/\μ x+r.length<=ts.length
theorem hdt{s:ByteArray}{ts:List Tk}(h:hd s ts=true):ts.tail.length+1=ts.length:=by
 cases ts with
 |nil=>cases h
 |cons x r=>rfl
theorem Ty.fines_of:∀ {l:List Ty},(∀u∈l,u.fine)->Ty.fines l
 |[],_=>trivial
 |_::_,h=>⟨h _ (by simp),Ty.fines_of fun u hu=>h u (by simp[hu])⟩
def lsum{α:Type}(μ:α->Nat):List α->Nat
 |[]=>0
 |x::r=>μ x+lsum μ r
theorem VT{α:Type}{μ:α->Nat}{I:α->Prop}{F:List Tk->PR α}(hF:Meas μ I F):∀g ts l r,QP F g ts= .ok l r->(∀x∈l,I x)/\lsum μ l+r.length<=ts.length
 |0,_,_,_,h=>by cases h
 |g+1,ts,l,r,h=>by
  rw[QP] at h
  obtain⟨x,s,h1,h2⟩:=PR.bind_ok h
  obtain⟨i1,m1⟩:=hF _ _ _ h1
  split at h2
  ·next hc=>
   obtain⟨m,s2,h3,h4⟩:=PR.bind_ok h2
   obtain⟨i2,m2⟩:=VT hF g _ _ _ h3
   cases h4
   have:=hdt hc
   refine⟨fun y hy=>?_,by show μ x+lsum μ m+r.length<=_;omega⟩
   rcases List.mem_cons.1 hy with rfl|hy
   ·exact i1
   ·exact i2 y hy
  ·cases h2
   exact⟨fun y hy=>by rw[mS hy];exact i1,by show μ x+0+r.length<=_;omega⟩
theorem DL{α:Type}{μ:α->Nat}{I:α->Prop}{F:List Tk->PR α}(hF:Meas μ I F):Meas (fun x:ByteArray×α=>μ x.2) (fun x=>I x.2) (QX Qb F):=by
 intro ts x r h
 unfold QX at h
 obtain⟨n,s,h1,h2⟩:=PR.bind_ok h
 obtain⟨_,s2,h3,h4⟩:=PR.bind_ok h2
 obtain⟨y,s3,h5,h6⟩:=PR.bind_ok h4
 obtain⟨i1,m1⟩:=hF _ _ _ h5
 have:=QJ h1
 have:=Qp h3
 cases h6
 exact⟨i1,by show μ y+_<=_;omega⟩
theorem Kr{α:Type}{μ:α->Nat}{I:α->Prop}{F:List Tk->PR α}(hF:Meas μ I F)(g:Nat):∀ts l r,Ys Qb F g ts= .ok l r->(∀x∈l,I x.2)/\lsum (fun x=>μ x.2) l+r.length+2<=ts.length:=by
 intro ts l r h
 unfold Ys at h
 obtain⟨_,s,h1,h2⟩:=PR.bind_ok h
 obtain⟨m,s2,h3,h4⟩:=PR.bind_ok h2
 obtain⟨_,s3,h5,h6⟩:=PR.bind_ok h4
 obtain⟨i1,m1⟩:=VT (DL hF) _ _ _ _ h3
 have:=Qp h1
 have:=Qp h5
 cases h6
 exact⟨i1,by omega⟩
theorem Ty.sizes_lsum:∀l:List (ByteArray×Ty),Ty.sizes (l.map (·.2))=lsum (fun x=>Ty.size x.2) l
 |[]=>rfl
 |x::r=>by
  show x.2.size+Ty.sizes (r.map (·.2))=x.2.size+lsum _ r
  rw[Ty.sizes_lsum r]
theorem YD{k:Int}(h:0<=k/\k<=100):In64 k:=by unfold In64;omega
theorem Yx(k p s:Int)(n:ByteArray)(h:0<=k/\k<=100):(Ty.mk k p n s [] []).fine:=by
 unfold Ty.fine
 exact⟨YD h,trivial⟩
abbrev TM(F:List Tk->PR Ty):Prop:=Meas Ty.size Ty.fine F
theorem Tl:TM (pvar Qb):=by
 intro ts x r h
 unfold pvar at h
 obtain⟨n,s,h1,h2⟩:=PR.bind_ok h
 have l1:=QJ h1
 split at h2
 ·next hc=>
  obtain⟨m,s2,h3,h4⟩:=PR.bind_ok h2
  have:=hdt hc
  have:=VS h3
  cases h4
  exact⟨Yx _ _ _ _ (by omega),by rw[Ty.size_eq];show 0+1+_<=_;omega⟩
 ·cases h2
  exact⟨Yx _ _ _ _ (by omega),by rw[Ty.size_eq];show 0+1+_<=_;omega⟩
theorem UY{S:List Tk->PR Ty}(hS:TM S):TM (Js S):=by
 intro ts x r h
 unfold Js at h
 split at h
 ·next hc=>
  have:=hdt hc
  cases h
  exact⟨Yx _ _ _ _ (by omega),by rw[Ty.size_eq];show 0+1+_<=_;omega⟩
 ·split at h
  ·next hc=>
   have:=hdt hc
   cases h
   exact⟨Yx _ _ _ _ (by omega),by rw[Ty.size_eq];show 0+1+_<=_;omega⟩
  ·exact hS _ _ _ h
theorem TC{S:List Tk->PR Ty}(hS:TM S):TM (JO S):=by
 intro ts x r h
 unfold JO at h
 split at h
 ·cases h
 ·exact UY hS _ _ _ h
theorem Mj{S:List Tk->PR Ty}(hS:TM S)(k:Int)(hk:0<=k/\k<=100)(ts:List Tk)(x:Ty)(r:List Tk)(h:Zg S k ts= .ok x r):x.fine/\x.size+r.length<=ts.length:=by
 unfold Zg at h
 obtain⟨p,s1,h1,h⟩:=PR.bind_ok h
 obtain⟨t,s2,h2,h⟩:=PR.bind_ok h
 obtain⟨_,s3,h3,h⟩:=PR.bind_ok h
 obtain⟨u,s4,h4,h⟩:=PR.bind_ok h
 have:=Yi h1
 obtain⟨i1,m1⟩:=TC hS _ _ _ h2
 have:=Qp h3
 obtain⟨i2,m2⟩:=hS _ _ _ h4
 cases h
 refine⟨?_,by rw[Ty.size_eq];show t.size+(u.size+0)+1+_<=_;omega⟩
 unfold Ty.fine
 exact⟨YD hk,i1,i2,trivial⟩
theorem Uj{S:List Tk->PR Ty}(hS:TM S)(g:Nat)(k:Int)(hk:0<=k/\k<=100)(ts:List Tk)(x:Ty)(r:List Tk)(h:Jp Qb S g k ts= .ok x r):x.fine/\x.size+r.length<=ts.length:=by
 unfold Jp at h
 obtain⟨p,s1,h1,h⟩:=PR.bind_ok h
 obtain⟨l,s2,h2,h⟩:=PR.bind_ok h
 have:=Yi h1
 obtain⟨i1,m1⟩:=Kr hS _ _ _ _ h2
 cases h
 refine⟨?_,by rw[Ty.size_eq];show Ty.sizes (l.map (·.2))+1+_<=_;rw[Ty.sizes_lsum];omega⟩
 unfold Ty.fine
 exact⟨YD hk,Ty.fines_of fun u hu=>by obtain⟨y,hy,rfl⟩:=List.mem_map.1 hu;exact i1 y hy⟩
theorem TA{S:List Tk->PR Ty}(hS:TM S)(ts:List Tk)(x:Ty)(r:List Tk)(h:VH Qb S ts= .ok x r):x.fine/\x.size+r.length<=ts.length:=by
 unfold VH at h
 obtain⟨n,s1,h1,h⟩:=PR.bind_ok h
 obtain⟨_,s2,h2,h⟩:=PR.bind_ok h
 obtain⟨t,s3,h3,h⟩:=PR.bind_ok h
 have:=QJ h1
 have:=Qp h2
 obtain⟨i1,m1⟩:=hS _ _ _ h3
 cases h
 refine⟨?_,by rw[Ty.size_eq];show t.size+0+1+_<=_;omega⟩
 unfold Ty.fine
 exact⟨YD (by omega),i1,trivial⟩
theorem Xw:∀f,TM (Ql Qb f)
 |0,_,_,_,h=>by cases h
 |f+1,ts,x,r,h=>by
  have hS:=Xw f
  rw[Ql] at h
  split at h
  ·next hc=>
   have:=hdt hc
   cases h
   exact⟨Yx _ _ _ _ (by omega),by rw[Ty.size_eq];show 0+1+_<=_;omega⟩
  split at h
  ·next hc=>
   have:=hdt hc
   obtain⟨i,m⟩:=Mj hS 4 (by omega) _ _ _ h
   exact⟨i,by omega⟩
  split at h
  ·next hc=>
   have:=hdt hc
   obtain⟨i,m⟩:=Mj hS 5 (by omega) _ _ _ h
   exact⟨i,by omega⟩
  split at h
  ·next hc=>
   have:=hdt hc
   obtain⟨i,m⟩:=Uj hS f 6 (by omega) _ _ _ h
   exact⟨i,by omega⟩
  split at h
  ·next hc=>
   have:=hdt hc
   obtain⟨i,m⟩:=Uj hS f 7 (by omega) _ _ _ h
   exact⟨i,by omega⟩
  split at h
  ·next hc=>
   have:=hdt hc
   obtain⟨i,m⟩:=TA hS _ _ _ h
   exact⟨i,by omega⟩
  split at h
  ·next hc=>
   have:=hdt hc
   obtain⟨t,s1,h1,h⟩:=PR.bind_ok h
   obtain⟨_,s2,h2,h⟩:=PR.bind_ok h
   obtain⟨i,m⟩:=hS _ _ _ h1
   have:=Qp h2
   cases h
   exact⟨i,by omega⟩
  ·exact Tl _ _ _ h
mutual
def Pr.zz:Pr->Prop
 | .mk k _ _ _ _ t ps=>(k=6\/t=zT)/\Pr.zzs ps
def Pr.zzs:List Pr->Prop
 |[]=>True
 |p::r=>p.zz/\Pr.zzs r
end
def Pr.mu(p:Pr):Nat:=p.size+p.typ
def Pr.ii(p:Pr):Prop:=p.fine/\p.zz
theorem Pr.fines_mk:∀ {l:List Pr},(∀u∈l,u.fine)->Pr.fines l
 |[],_=>trivial
 |_::_,h=>⟨h _ (by simp),Pr.fines_mk fun u hu=>h u (by simp[hu])⟩
theorem Pr.zzs_of:∀ {l:List Pr},(∀u∈l,u.zz)->Pr.zzs l
 |[],_=>trivial
 |_::_,h=>⟨h _ (by simp),Pr.zzs_of fun u hu=>h u (by simp[hu])⟩
theorem XM:zT.fine:=Yx 0 0 0 ⟨#[]⟩ (by omega)
theorem Pr.ii_mk{k:Int}{c x:ByteArray}{ls:List ByteArray}{vs:List Vl}{t:Ty}{ps:List Pr}(hk:0<=k/\k<=100)(ht:t.fine)(hz:k=6\/t=zT)(hp:∀u∈ps,u.ii):(Pr.mk k c x ls vs t ps).ii:=by
 refine⟨?_,?_⟩
 ·unfold Pr.fine
  exact⟨YD hk,ht,Pr.fines_mk fun u hu=>(hp u hu).1⟩
 ·unfold Pr.zz
  exact⟨hz,Pr.zzs_of fun u hu=>(hp u hu).2⟩
theorem Ng(k:Int)(c x:ByteArray)(ls:List ByteArray)(vs:List Vl)(t:Ty)(ps:List Pr):(Pr.mk k c x ls vs t ps).mu=1+(if k=6 then t.size else 0)+lsum Pr.mu ps:=by
 have h:∀ps:List Pr,Pr.sizes ps+Pr.typs ps=lsum Pr.mu ps:=by
  intro ps
  induction ps with
  |nil=>rfl
  |cons p r ih=>
   show p.size+Pr.sizes r+(p.typ+Pr.typs r)=p.size+p.typ+lsum Pr.mu r
   omega
 have:=h ps
 show Pr.size _+Pr.typ _=_
 rw[Pr.size,Pr.typ]
 omega
theorem Vn{α:Type}(μ:α->Nat)(x:α):lsum μ [x]=μ x:=rfl
theorem Kt{α:Type}(μ:α->Nat):∀l m:List α,lsum μ (l++m)=lsum μ l+lsum μ m
 |[],m=>by show lsum μ m=0+_;omega
 |x::r,m=>by show μ x+lsum μ (r++m)=μ x+lsum μ r+_;rw[Kt μ r m];omega
abbrev PM(S:List Tk->PR Pr):Prop:=Meas Pr.mu Pr.ii S
theorem Mp{l:List Pr}(h:∀x∈l,x.ii)(hl:1<=l.length):(ZQ l).ii/\(ZQ l).mu+1<=lsum Pr.mu l+l.length:=by
 match l,h,hl with
 |[p],h,_=>exact⟨h p (by simp),by show p.mu+1<=p.mu+0+1;omega⟩
 |p::q::r,h,_=>
  refine⟨Pr.ii_mk (by omega) XM (.inr rfl) h,?_⟩
  show(Pr.mk 7 ⟨#[]⟩ ⟨#[]⟩ [] [] zT (p::q::r)).mu+1<=_
  rw[Ng,if_neg (by decide)]
  simp only[List.length_cons]
  omega
theorem VQ{S:List Tk->PR Pr}(hS:PM S)(ts:List Tk)(x:Pr)(r:List Tk)(h:JG S ts= .ok x r):x.ii/\x.mu+r.length+1<=ts.length:=by
 unfold JG at h
 obtain⟨_,s1,h1,h⟩:=PR.bind_ok h
 have:=Qp h1
 obtain⟨i,m⟩:=hS _ _ _ h
 exact⟨i,by omega⟩
theorem No{p:Pr}(h:p.ii):∀u∈[p],u.ii:=fun u hu=>by rw[mS hu];exact h
theorem Dy{S:List Tk->PR Pr}(hS:PM S)(c:ByteArray)(ts:List Tk)(x:Pr)(r:List Tk)(h:ZC Qb S c ts= .ok x r):x.ii/\x.mu+r.length<=ts.length:=by
 unfold ZC at h
 obtain⟨_,s1,h1,h⟩:=PR.bind_ok h
 obtain⟨v,s2,h2,h⟩:=PR.bind_ok h
 obtain⟨_,s3,h3,h⟩:=PR.bind_ok h
 obtain⟨p,s4,h4,h⟩:=PR.bind_ok h
 have:=Qp h1
 have:=XP _ _ _ h2
 have:=Qp h3
 obtain⟨i,m⟩:=VQ hS _ _ _ h4
 cases h
 exact⟨Pr.ii_mk (by omega) XM (.inr rfl) (No i),by rw[Ng,if_neg (by decide),Vn];omega⟩
theorem DB{S:List Tk->PR Pr}(hS:PM S)(c:ByteArray)(ts:List Tk)(x:Pr)(r:List Tk)(h:Yh Qb S c ts= .ok x r):x.ii/\x.mu+r.length<=ts.length:=by
 unfold Yh at h
 obtain⟨_,s1,h1,h⟩:=PR.bind_ok h
 obtain⟨v,s2,h2,h⟩:=PR.bind_ok h
 obtain⟨_,s3,h3,h⟩:=PR.bind_ok h
 obtain⟨p,s4,h4,h⟩:=PR.bind_ok h
 have:=Qp h1
 have:=QJ h2
 have:=Qp h3
 obtain⟨i,m⟩:=VQ hS _ _ _ h4
 cases h
 exact⟨Pr.ii_mk (by omega) XM (.inr rfl) (No i),by rw[Ng,if_neg (by decide),Vn];omega⟩
theorem Tu{S:List Tk->PR Pr}(hS:PM S)(c:ByteArray)(ts:List Tk)(x:Pr)(r:List Tk)(h:VG Qb S c ts= .ok x r):x.ii/\x.mu+r.length<=ts.length:=by
 unfold VG at h
 obtain⟨v,s2,h2,h⟩:=PR.bind_ok h
 obtain⟨p,s4,h4,h⟩:=PR.bind_ok h
 have:=QJ h2
 obtain⟨i,m⟩:=VQ hS _ _ _ h4
 cases h
 exact⟨Pr.ii_mk (by omega) XM (.inr rfl) (No i),by rw[Ng,if_neg (by decide),Vn];omega⟩
theorem Fx{α β:Type}(μ:β->Nat)(f:α->β):∀l:List α,lsum μ (l.map f)=lsum (fun x=>μ (f x)) l
 |[]=>rfl
 |x::r=>by show μ (f x)+lsum μ (r.map f)=μ (f x)+lsum _ r;rw[Fx μ f r]
theorem TI{P:List Tk->PR Pr}(hP:PM P)(g:Nat)(c:ByteArray)(ts:List Tk)(x:Pr)(r:List Tk)(h:VI Qb P g c ts= .ok x r):x.ii/\x.mu+r.length<=ts.length:=by
 unfold VI at h
 obtain⟨l,s2,h2,h⟩:=PR.bind_ok h
 obtain⟨i,m⟩:=Kr hP _ _ _ _ h2
 cases h
 exact⟨Pr.ii_mk (by omega) XM (.inr rfl) (fun u hu=>by obtain⟨y,hy,rfl⟩:=List.mem_map.1 hu;exact i y hy),by rw[Ng,if_neg (by decide),Fx];omega⟩
theorem XH{α:Type}{μ:α->Nat}{I:α->Prop}{F:List Tk->PR α}(hF:Meas μ I F)(s:ByteArray)(g:Nat):∀ts l r,Qq F s g ts= .ok l r->(∀x∈l,I x)/\lsum μ l+r.length+1<=ts.length:=by
 intro ts l r h
 unfold Qq at h
 split at h
 ·next hc=>
  have:=hdt hc
  cases h
  exact⟨(fun x hx=>by cases hx),(by show 0+_+1<=_;omega)⟩
 ·obtain⟨m,s1,h1,h⟩:=PR.bind_ok h
  obtain⟨_,s2,h2,h⟩:=PR.bind_ok h
  obtain⟨i,k⟩:=VT hF _ _ _ _ h1
  have:=Qp h2
  cases h
  exact⟨i,by omega⟩
theorem Tn:Meas (fun _:Vl=>0) (fun _=>True) (pval Qb):=fun ts x r h=>⟨trivial,by have:=XP _ _ _ h;show 0+r.length<=ts.length;omega⟩
theorem DM(g:Nat)(c:ByteArray)(ts:List Tk)(x:Pr)(r:List Tk)(h:ZE Qb g c ts= .ok x r):x.ii/\x.mu+r.length<=ts.length:=by
 unfold ZE at h
 obtain⟨_,s1,h1,h⟩:=PR.bind_ok h
 obtain⟨l,s2,h2,h⟩:=PR.bind_ok h
 have:=Qp h1
 obtain⟨_,m⟩:=XH Tn _ _ _ _ _ h2
 cases h
 exact⟨Pr.ii_mk (by omega) XM (.inr rfl) (fun u hu=>by cases hu),by rw[Ng,if_neg (by decide)];show 1+0+0+_<=ts.length;omega⟩
theorem TD{T:List Tk->PR Ty}{S:List Tk->PR Pr}(hT:TM T)(hS:PM S)(ts:List Tk)(x:Pr)(r:List Tk)(h:YV Qb T S ts= .ok x r):x.ii/\x.mu+r.length<=ts.length:=by
 unfold YV at h
 obtain⟨_,s1,h1,h⟩:=PR.bind_ok h
 obtain⟨a,s2,h2,h⟩:=PR.bind_ok h
 obtain⟨_,s3,h3,h⟩:=PR.bind_ok h
 obtain⟨b,s4,h4,h⟩:=PR.bind_ok h
 obtain⟨_,s5,h5,h⟩:=PR.bind_ok h
 obtain⟨t,s6,h6,h⟩:=PR.bind_ok h
 obtain⟨_,s7,h7,h⟩:=PR.bind_ok h
 obtain⟨p,s8,h8,h⟩:=PR.bind_ok h
 have:=Qp h1
 have:=QJ h2
 have:=Qp h3
 have:=QJ h4
 have:=Qp h5
 obtain⟨i1,m1⟩:=hT _ _ _ h6
 have:=Qp h7
 obtain⟨i2,m2⟩:=hS _ _ _ h8
 cases h
 exact⟨Pr.ii_mk (by omega) i1 (.inl rfl) (No i2),by rw[Ng,if_pos rfl,Vn];omega⟩
theorem Gz{P S:List Tk->PR Pr}(hP:PM P)(hS:PM S)(g:Nat)(c:ByteArray)(ts:List Tk)(x:Pr)(r:List Tk)(h:QZ Qb P S g c ts= .ok x r):x.ii/\x.mu+r.length<=ts.length:=by
 unfold QZ at h
 split at h
 ·next hc=>have:=hdt hc;obtain⟨i,m⟩:=Dy hS _ _ _ _ h;exact⟨i,by omega⟩
 split at h
 ·next hc=>have:=hdt hc;obtain⟨i,m⟩:=DB hS _ _ _ _ h;exact⟨i,by omega⟩
 split at h
 ·next hc=>have:=hdt hc;obtain⟨i,m⟩:=Tu hS _ _ _ _ h;exact⟨i,by omega⟩
 split at h
 ·next hc=>have:=hdt hc;obtain⟨i,m⟩:=TI hP _ _ _ _ _ h;exact⟨i,by omega⟩
 ·exact DM _ _ _ _ _ h
def Le(f:Nat)(b:Bool):Prop:=∀ts l r,Qo Qb f b ts= .ok l r->(∀x∈l,x.ii)/\1<=l.length/\lsum Pr.mu l+l.length+r.length<=ts.length+1
theorem Ux{f:Nat}{b:Bool}(h:Le f b):PM (fun r=>(Qo Qb f b r).bind fun l r=> .ok (ZQ l) r):=by
 intro ts x r hx
 obtain⟨l,s,h1,h2⟩:=PR.bind_ok hx
 obtain⟨i,hl,m⟩:=h _ _ _ h1
 obtain⟨j,k⟩:=Mp i hl
 cases h2
 exact⟨j,by omega⟩
theorem Vt{x:Pr}{r ts:List Tk}(i:x.ii)(m:x.mu+r.length<=ts.length):(∀u∈[x],u.ii)/\1<=[x].length/\lsum Pr.mu [x]+[x].length+r.length<=ts.length+1:=
 ⟨No i,by simp,by rw[Vn];simp only[List.length_singleton];omega⟩
theorem Yd:∀f b,Le f b
 |0,_,_,_,_,h=>by cases h
 |f+1,false,ts,l,r,h=>by
  have hT:=Yd f true
  have hF:=Yd f false
  rw[Qo] at h
  split at h
  ·next hc=>
   have:=hdt hc
   cases h
   exact Vt (Pr.ii_mk (by omega) XM (.inr rfl) (fun u hu=>by cases hu)) (by rw[Ng,if_neg (by decide)];show 1+0+0+_<=_;omega)
  split at h
  ·next hc=>
   have:=hdt hc
   obtain⟨m,s1,h1,h⟩:=PR.bind_ok h
   obtain⟨_,s2,h2,h⟩:=PR.bind_ok h
   obtain⟨i,hl,k⟩:=hT _ _ _ h1
   obtain⟨j,k2⟩:=Mp i hl
   have:=Qp h2
   cases h
   exact Vt j (by omega)
  split at h
  ·next hc=>
   have:=hdt hc
   obtain⟨p,s1,h1,h⟩:=PR.bind_ok h
   obtain⟨i,m⟩:=TD (Xw f) (Ux hF) _ _ _ h1
   cases h
   exact Vt i (by omega)
  ·obtain⟨c,s1,h1,h⟩:=PR.bind_ok h
   obtain⟨p,s2,h2,h⟩:=PR.bind_ok h
   have:=QJ h1
   obtain⟨i,m⟩:=Gz (Ux hT) (Ux hF) _ _ _ _ _ h2
   cases h
   exact Vt i (by omega)
 |f+1,true,ts,l,r,h=>by
  have hT:=Yd f true
  have hF:=Yd f false
  rw[Qo] at h
  obtain⟨l1,s1,h1,h⟩:=PR.bind_ok h
  have h3:(∀x∈l1,x.ii)/\1<=l1.length/\lsum Pr.mu l1+l1.length+s1.length<=ts.length+1:=by
   split at h1
   ·next hc=>
    have:=hdt hc
    obtain⟨m,s2,h4,h5⟩:=PR.bind_ok h1
    obtain⟨_,s3,h6,h7⟩:=PR.bind_ok h5
    obtain⟨i,hl,k⟩:=hT _ _ _ h4
    have:=Qp h6
    cases h7
    exact⟨i,hl,by omega⟩
   ·exact hF _ _ _ h1
  obtain⟨i,hl,k⟩:=h3
  split at h
  ·next hc=>
   have:=hdt hc
   obtain⟨m,s2,h4,h⟩:=PR.bind_ok h
   obtain⟨i2,hl2,k2⟩:=hT _ _ _ h4
   cases h
   refine⟨fun x hx=>?_,by rw[List.length_append];omega,by rw[Kt,List.length_append];omega⟩
   rcases List.mem_append.1 hx with hx|hx
   ·exact i x hx
   ·exact i2 x hx
  ·cases h
   exact⟨i,hl,k⟩
theorem VR(f:Nat):PM (QT Qb f):=Ux (Yd f true)
mutual
theorem Pr.good:∀(p:Pr),p.zz->p.typ<=100000->p.tf
 | .mk k c x ls vs t ps,hz,ht=>by
  unfold Pr.zz at hz
  rw[Pr.typ] at ht
  have hs:t.size<=100000:=by
   rcases hz.1 with h|h
   ·rw[if_pos h] at ht;omega
   ·rw[h,Ty.size_eq];show 0+1<=_;omega
  unfold Pr.tf
  exact⟨⟨hs,lT (Ty.depth_le_size t) hs⟩,Pr.goods ps hz.2 (by omega)⟩
theorem Pr.goods:∀(l:List Pr),Pr.zzs l->Pr.typs l<=100000->Pr.tfs l
 |[],_,_=>trivial
 |p::r,hz,ht=>by
  unfold Pr.zzs at hz
  have ht2:p.typ+Pr.typs r<=100000:=ht
  unfold Pr.tfs
  exact⟨Pr.good p hz.1 (by omega),Pr.goods r hz.2 (by omega)⟩
end
def Pm.mu(a:Pm):Nat:=a.t.size
def Pm.ii(a:Pm):Prop:=a.t.fine
def Df.ii(d:Df):Prop:=(∀a∈d.ms,a.t.fine)/\d.b.ii
theorem Gy(f:Nat):Meas Pm.mu Pm.ii (ZD Qb f):=by
 intro ts x r h
 unfold ZD at h
 obtain⟨n,s1,h1,h⟩:=PR.bind_ok h
 obtain⟨_,s2,h2,h⟩:=PR.bind_ok h
 obtain⟨t,s3,h3,h⟩:=PR.bind_ok h
 have:=QJ h1
 have:=Qp h2
 obtain⟨i,m⟩:=UY (Xw f) _ _ _ h3
 cases h
 exact⟨i,by show t.size+_<=_;omega⟩
theorem Mm(f:Nat)(ts:List Tk)(x:Pr)(r:List Tk)(h:YW Qb f ts= .ok x r):x.ii/\x.mu+r.length+2<=ts.length:=by
 unfold YW at h
 obtain⟨_,s1,h1,h⟩:=PR.bind_ok h
 obtain⟨p,s2,h2,h⟩:=PR.bind_ok h
 obtain⟨_,s3,h3,h⟩:=PR.bind_ok h
 have:=Qp h1
 obtain⟨i,m⟩:=VR f _ _ _ h2
 have:=Qp h3
 cases h
 exact⟨i,by omega⟩
theorem MP:∀l:List Pm,sumN (l.map fun a=>a.t.size)=lsum Pm.mu l
 |[]=>rfl
 |a::r=>by show a.t.size+sumN _=a.t.size+lsum _ r;rw[MP r]
theorem TG(f:Nat)(ts:List Tk)(d:Df)(r:List Tk)(h:pdef Qb f ts= .ok d r):d.ii/\d.all+r.length+1<=ts.length:=by
 unfold pdef at h
 obtain⟨n,s1,h1,h⟩:=PR.bind_ok h
 obtain⟨_,s2,h2,h⟩:=PR.bind_ok h
 obtain⟨l,s3,h3,h⟩:=PR.bind_ok h
 obtain⟨b,s4,h4,h⟩:=PR.bind_ok h
 have:=QJ h1
 have:=Qp h2
 obtain⟨i,m⟩:=XH (Gy f) _ _ _ _ _ h3
 obtain⟨i2,m2⟩:=Mm f _ _ _ h4
 cases h
 refine⟨⟨i,i2⟩,?_⟩
 have e:sumN (Df.pms ⟨n,l,b⟩)=lsum Pm.mu l:=MP l
 have e2:b.mu=b.size+b.typ:=rfl
 unfold Df.all
 rw[e]
 show b.size+b.typ+_+_+1<=_
 omega
theorem Mk(f:Nat):∀g ts l r,Zk Qb f g ts= .ok l r->(∀d∈l,d.ii)/\lsum Df.all l+l.length+r.length<=ts.length
 |0,_,_,_,h=>by cases h
 |g+1,ts,l,r,h=>by
  rw[Zk] at h
  split at h
  ·next hc=>
   have:=hdt hc
   obtain⟨d,s1,h1,h⟩:=PR.bind_ok h
   obtain⟨m,s2,h2,h⟩:=PR.bind_ok h
   obtain⟨i,k⟩:=TG f _ _ _ h1
   obtain⟨i2,k2⟩:=Mk f g _ _ _ h2
   cases h
   refine⟨fun x hx=>?_,by show d.all+lsum Df.all m+(m.length+1)+_<=_;omega⟩
   rcases List.mem_cons.1 hx with rfl|hx
   ·exact i
   ·exact i2 x hx
  ·cases h
   exact⟨fun x hx=>(by cases hx),by show 0+0+_<=_;omega⟩
theorem Uy:∀l:List Df,sumN (l.map Df.all)=lsum Df.all l
 |[]=>rfl
 |a::r=>by show a.all+sumN _=a.all+lsum _ r;rw[Uy r]
theorem MT{α:Type}(μ:α->Nat){x:α}:∀ {l:List α},x∈l->μ x<=lsum μ l
 |y::r,h=>by
  rcases List.mem_cons.1 h with rfl|h
  ·show μ x<=μ x+lsum μ r;omega
  ·have:=MT μ h;show μ x<=μ y+lsum μ r;omega
theorem YB(f:Nat)(ts:List Tk)(g:Pg)(r:List Tk)(h:Yq Qb f ts= .ok g r):(∀d∈g.ds,d.ii)/\g.m.ii/\g.total<=ts.length/\g.ds.length<=ts.length:=by
 unfold Yq at h
 obtain⟨l,s1,h1,h⟩:=PR.bind_ok h
 obtain⟨_,s2,h2,h⟩:=PR.bind_ok h
 obtain⟨m,s3,h3,h⟩:=PR.bind_ok h
 obtain⟨i,k⟩:=Mk f _ _ _ _ h1
 have:=Qp h2
 obtain⟨i2,k2⟩:=Mm f _ _ _ h3
 have e2:m.mu=m.size+m.typ:=rfl
 cases h
 refine⟨i,i2,?_,by show l.length<=_;omega⟩
 rw[Pg.total_eq]
 show m.size+m.typ+sumN (l.map Df.all)<=_
 rw[Uy]
 omega
theorem Ge{g:Pg}{n:Nat}(hn:n<=90000)(hd:∀d∈g.ds,d.ii)(hm:g.m.ii)(ht:g.total<=n)(hl:g.ds.length<=n):GGood g/\g.total<=1000000000:=by
 rw[Pg.total_eq,Uy] at ht
 have hall:∀d∈g.ds,d.all<=90000:=fun d hd=>by have:=MT Df.all hd;omega
 have body:∀p:Pr,p.ii->p.size+p.typ<=90000->PGood p/\p.depth<=90000/\p.size<=1000000:=fun p hi hs=>
  ⟨⟨hi.1,Pr.good p hi.2 (by omega)⟩,by have:=Pr.depth_le_size p;omega,by omega⟩
 refine⟨⟨by omega,fun d hdm a ha=>⟨(hd d hdm).1 a ha,?_⟩,fun p hp=>?_⟩,by rw[Pg.total_eq,Uy];omega⟩
 ·have h3:=hall d hdm
  have h4:Pm.mu a<=lsum Pm.mu d.ms:=MT Pm.mu ha
  unfold Df.all at h3
  rw[show sumN d.pms=lsum Pm.mu d.ms from MP _] at h3
  have:Pm.mu a=a.t.size:=rfl
  have:=Ty.depth_le_size a.t
  exact⟨by omega,by omega⟩
 ·unfold Pg.bodies at hp
  rcases List.mem_append.1 hp with hp|hp
  ·obtain⟨d,hdm,rfl⟩:=List.mem_map.1 hp
   have h4:=hall d hdm
   unfold Df.all at h4
   exact body d.b (hd d hdm).2 (by omega)
  ·rw[mS hp]
   exact body g.m hm (by omega)
theorem LU{p:Pr}{n:Nat}(hn:n<=90000)(hi:p.ii)(hm:p.mu<=n):GGood ⟨[],p⟩/\(⟨[],p⟩:Pg).total<=1000000000:=
 Ge (g:=⟨[],p⟩) hn (fun _ h=>by cases h) hi (by rw[Pg.total_eq];show p.size+p.typ+0<=n;have:p.mu=p.size+p.typ:=rfl;omega) (Nat.zero_le _)
end Go.Proofs.YtmnbheplkidfaaaGreatDoor
namespace Go.Proofs.YtmnbheplkidfaaaGreatDoor
open Go.Lib (hid)
open Go.RowKit Go.Deep Go.Shelf
def ZP{α:Type}(F:List Tk->PR α)(big:α->Bool)(s:ByteArray):List Tok.Item ⊕ (Int×Int)->α ⊕ (Int×Int)
 | .inr z=> .inr z
 | .inl I=>pfin F big (s.size:Int) (I.map tkOf)
def Rl(ts:List Tk):PR Ty:=Js (Ql Qb (ts.length+2)) ts
def FK(ts:List Tk):PR Pr:=QT Qb (2*ts.length+8) ts
def KF(ts:List Tk):PR Pg:=Yq Qb (2*ts.length+8) ts
def bigP(p:Pr):Bool:=(⟨[],p⟩:Pg).tooBig
theorem We:∀args w,(callFunc 36 args).run Tryz.prog w= .ok (.enter 36 args) w:=enters_of Tryz.func36 (by kernel_rfl) rfl
theorem Wh:∀args w,(callFunc 37 args).run Tryz.prog w= .ok (.enter 37 args) w:=enters_of Tryz.func37 (by kernel_rfl) rfl
theorem FS(s:ByteArray)(r:List Tok.Item ⊕ (Int×Int))(hr:Scans s r)(B:Nat)(w:World)(he:Tok.Env B w):
 Calls Tryz.prog 35 #[.string s,.func (.func 36) #[] #[],.func (.func 37) #[] #[]] w (WRes w (ZP Rl Ty.tooBig s r) GTy (.agg z6)):=by
 match r with
 | .inr (e,p)=>exact FQ s e p hr.ne w (hr.tokBad he) _ _ GTy
 | .inl I=>
  refine RE s I B w ⟨he.words,he.above.2,he.size⟩ (hr.tokOK he) hr.txt (lT hr.len (by omega)) _ _ We Wh Rl Ty.tooBig ?_ ?_
  ·exact fun P tb W hBP hE hPa=>MS P tb _ (I.map tkOf) B W hE hBP hPa (Ql Qb ((I.map tkOf).length+2)) ((I.map tkOf).length+2) (by omega) (Xv P tb _ B hBP _)
  ·exact fun x r h b v W hg=>WA (fun k=>b<=k/\k<W.heap.size) x (by have h1:=(UY (Xw _) _ _ _ h).2;have h2:=hr.len;rw[List.length_map] at h1;omega) v W (fun k hk=>hk.2) hg
theorem Wf:∀args w,(callFunc 31 args).run Tryz.prog w= .ok (.enter 31 args) w:=enters_of Tryz.func31 (by kernel_rfl) rfl
theorem Wi:∀args w,(callFunc 32 args).run Tryz.prog w= .ok (.enter 32 args) w:=enters_of Tryz.func32 (by kernel_rfl) rfl
theorem FU(s:ByteArray)(r:List Tok.Item ⊕ (Int×Int))(hr:Scans s r)(B:Nat)(w:World)(he:Tok.Env B w):
 Calls Tryz.prog 30 #[.string s,.func (.func 31) #[] #[],.func (.func 32) #[] #[]] w (WRes w (ZP FK bigP s r) GPr (.agg (cN 0 ⟨#[]⟩ ⟨#[]⟩ sN sN sN))):=by
 match r with
 | .inr (e,p)=>exact FT s e p hr.ne w (hr.tokBad he) _ _ GPr
 | .inl I=>
  refine RF s I B w ⟨he.words,he.above.2,he.size⟩ (hr.tokOK he) hr.txt (lT hr.len (by omega)) _ _ Wf Wi FK bigP ?_ ?_
  ·exact fun P tb W hBP hE hPa=>Vk P tb _ B hBP (2*(I.map tkOf).length+8) ((I.map tkOf).length+1) (by omega) (I.map tkOf) W (Nat.lt_succ_self _) hE hPa
  ·exact fun x r h b v W hg=>Tv (fun k=>b<=k/\k<W.heap.size) x (fun _=>LU (n:=90000) lR (VR _ _ _ _ h).1 (by have h1:=(VR _ _ _ _ h).2;have h2:=hr.len;rw[List.length_map] at h1;omega)) v W (fun k hk=>hk.2) hg
theorem Wg:∀args w,(callFunc 24 args).run Tryz.prog w= .ok (.enter 24 args) w:=enters_of Tryz.func24 (by kernel_rfl) rfl
theorem Wj:∀args w,(callFunc 25 args).run Tryz.prog w= .ok (.enter 25 args) w:=enters_of Tryz.func25 (by kernel_rfl) rfl
theorem FW(s:ByteArray)(r:List Tok.Item ⊕ (Int×Int))(hr:Scans s r)(B:Nat)(w:World)(he:Tok.Env B w):
 Calls Tryz.prog 23 #[.string s,.func (.func 24) #[] #[],.func (.func 25) #[] #[]] w (WRes w (ZP KF Pg.tooBig s r) GPg (.agg z13)):=by
 match r with
 | .inr (e,p)=>exact FV s e p hr.ne w (hr.tokBad he) _ _ GPg
 | .inl I=>
  refine RG s I B w ⟨he.words,he.above.2,he.size⟩ (hr.tokOK he) hr.txt (lT hr.len (by omega)) _ _ Wg Wj KF Pg.tooBig ?_ ?_
  ·exact fun P tb W hBP hE hPa=>TB P tb _ (I.map tkOf) B W hE hBP hPa (2*(I.map tkOf).length+8) (by omega)
  ·exact fun x r h b v W hg=>FC (fun k=>b<=k/\k<W.heap.size) x (fun _ _=>Ge (n:=90000) lR (YB _ _ _ _ h).1 (YB _ _ _ _ h).2.1 (by have h1:=(YB _ _ _ _ h).2.2.1;have h2:=hr.len;rw[List.length_map] at h1;omega) (by have h1:=(YB _ _ _ _ h).2.2.2;have h2:=hr.len;rw[List.length_map] at h1;omega)) v W (fun k hk=>hk.2) hg
theorem FM{w w':World}{r:Ty ⊕ (Int×Int)}{e:Ending}(h:WRes w r GTy (.agg z6) e w'):∃(i0:Int) (i1:Int) (s2:ByteArray) (i3:Int) (a4:Option Addr) (n4 c4:Nat) (a5:Option Addr) (n5 c5:Nat) (fe fp:Int),e= .returned (.tuple #[.agg #[.int .i64 i0,.int .i64 i1,.string s2,.int .i64 i3,.slice a4 n4 c4,.slice a5 n5 c5],.agg #[.int .i64 fe,.int .i64 fp]])/\Below w.heap.size w w'/\
 ∀(w0 W':World),Below w0.heap.size w0 W'->(∀x,GTy w.heap.size w' x (.agg #[.int .i64 i0,.int .i64 i1,.string s2,.int .i64 i3,.slice a4 n4 c4,.slice a5 n5 c5])->GTy w0.heap.size W' x (.agg #[.int .i64 i0,.int .i64 i1,.string s2,.int .i64 i3,.slice a4 n4 c4,.slice a5 n5 c5]))->WRes w0 r GTy (.agg z6) (.returned (.tuple #[.agg #[.int .i64 i0,.int .i64 i1,.string s2,.int .i64 i3,.slice a4 n4 c4,.slice a5 n5 c5],.agg #[.int .i64 fe,.int .i64 fp]])) W':=by
 match r with
 | .inr (er,p)=>
  obtain⟨rfl,hb⟩:=h
  exact⟨_,_,_,_,_,_,_,_,_,_,_,_,rfl,hb,fun w0 W' hb' _=>⟨rfl,hb'⟩⟩
 | .inl x=>
  obtain⟨⟨v,rfl,hg⟩,hb⟩:=h
  have hg0:=hg
  obtain⟨la,ln,lc,ka,kn,kc,hv⟩:=TyVal.open6 hg
  subst hv
  exact⟨_,_,_,_,_,_,_,_,_,_,_,_,rfl,hb,fun w0 W' hb' hk=>⟨⟨_,rfl,hk x hg0⟩,hb'⟩⟩
theorem TK(s:ByteArray)(r:List Tok.Item ⊕ (Int×Int))(hr:Scans s r)(B:Nat)(w:World)(he:Tok.Env B w):
 Calls Tryz.prog 16 #[.string s] w (WRes w (ZP Rl Ty.tooBig s r) GTy (.agg z6)):=by
 obtain⟨W2,hW2⟩:∃W2,(w.alloc (.cells z6 28)).alloc (.cells #[.int .i64 0,.int .i64 0] 36)=W2:=⟨_,rfl⟩
 have hb2:Below w.heap.size w W2:=by rw[<-hW2];exact(bR.alloc lR _).alloc (by simp) _
 have hz2:W2.heap.size=w.heap.size+2:=by rw[<-hW2];simp
 have x1:W2.heap[w.heap.size]? =some (.cells z6 28 (0,0)):=by rw[<-hW2,Below.heap_alloc _ _ _ (by simp)];exact World.alloc_heap_new _ _
 have x2:W2.heap[w.heap.size+1]? =some (.cells #[.int .i64 0,.int .i64 0] 36 (0,0)):=by
  rw[<-hW2]
  have:=World.alloc_heap_new (w.alloc (.cells z6 28)) (.cells #[.int .i64 0,.int .i64 0] 36)
  rwa[World.size_alloc] at this
 have HW2:=hid hW2
 have HB2:=hid hb2
 have HX1:=hid x1
 have HX2:=hid x2
 have HZ2:=hid hz2
 have HT:=hid (FS s r hr B W2 (YY he hb2))
 obtain⟨R,hR⟩:∃R,ZP Rl Ty.tooBig s r=R:=⟨_,rfl⟩
 rw[hR] at HT |-
 clear hW2 hb2 x1 x2 he hr hR hz2
 go_enter Tryz.func16,Tryz.ntmps16
 go_upto_region 1 with fail
 rw[HW2.out]
 go_wp2_with (go_at_call 35;refine HT.out.mono ?_;rintro e w3 hres;obtain⟨i0,i1,s2,i3,a4,n4,c4,a5,n5,c5,fe,fp,rfl,hb3,hfin⟩:=FM hres;have x31:=(hb3.block _ (gl HX1.out)).trans HX1.out;have x32:=(hb3.block _ (gl HX2.out)).trans HX2.out;have HX31:=hid x31;have HX32:=hid x32;have HB23:=hid hb3;have HB3:=hid (HB2.out.trans (hb3.mono HB2.out.size));have HFIN:=hid hfin;obtain⟨⟨q0,q1,q2,q3,q4,q5⟩,z0,z1,z2,z3,z4,z5⟩:=c6 x31;have g0:w3.cell? ⟨w.heap.size+1,0,none⟩=some iZ:=(by simp[World.cell?,x32]);have g1:w3.cell? ⟨w.heap.size+1,1,none⟩=some iZ:=(by simp[World.cell?,x32]);have f0:=Qc x32 0;have f1:=Qc x32 1;clear hb3 hfin hres x31 x32)
 obtain⟨W6,hW6⟩:∃W6,((((((((w3.setCell ⟨w.heap.size,0,none⟩ (.int .i64 i0)).setCell ⟨w.heap.size,1,none⟩ (.int .i64 i1)).setCell ⟨w.heap.size,2,none⟩ (.string s2)).setCell ⟨w.heap.size,3,none⟩ (.int .i64 i3)).setCell ⟨w.heap.size,4,none⟩ (.slice a4 n4 c4)).setCell ⟨w.heap.size,5,none⟩ (.slice a5 n5 c5)).setCell ⟨w.heap.size+1,0,none⟩ (.int .i64 fe)).setCell ⟨w.heap.size+1,1,none⟩ (.int .i64 fp))=W6:=⟨_,rfl⟩
 have x61:W6.heap[w.heap.size]? =some (.cells #[.int .i64 i0,.int .i64 i1,.string s2,.int .i64 i3,.slice a4 n4 c4,.slice a5 n5 c5] 28 (0,0)):=by rw[<-hW6];exact(oth1 ((put6 w3 w.heap.size (.int .i64 i0) (.int .i64 i1) (.string s2) (.int .i64 i3) (.slice a4 n4 c4) (.slice a5 n5 c5)).setCell ⟨w.heap.size+1,0,none⟩ (.int .i64 fe)) 1 (.int .i64 fp) (by omega)).trans ((oth1 (put6 w3 w.heap.size (.int .i64 i0) (.int .i64 i1) (.string s2) (.int .i64 i3) (.slice a4 n4 c4) (.slice a5 n5 c5)) 0 (.int .i64 fe) (by omega)).trans (ZB HX31.out (.int .i64 i0) (.int .i64 i1) (.string s2) (.int .i64 i3) (.slice a4 n4 c4) (.slice a5 n5 c5)))
 have x62:W6.heap[w.heap.size+1]? =some (.cells #[.int .i64 fe,.int .i64 fp] 36 (0,0)):=by rw[<-hW6];exact Qd (Qd ((ZS (w:=w3) (show w.heap.size+1≠w.heap.size by omega) (.int .i64 i0) (.int .i64 i1) (.string s2) (.int .i64 i3) (.slice a4 n4 c4) (.slice a5 n5 c5)).trans HX32.out) 0 (.int .i64 fe)) 1 (.int .i64 fp)
 have hb6:Below w.heap.size w W6:=by rw[<-hW6];exact((((((((HB3.out.setCell (p:=⟨w.heap.size,0,none⟩) lR _).setCell (p:=⟨w.heap.size,1,none⟩) lR _).setCell (p:=⟨w.heap.size,2,none⟩) lR _).setCell (p:=⟨w.heap.size,3,none⟩) lR _).setCell (p:=⟨w.heap.size,4,none⟩) lR _).setCell (p:=⟨w.heap.size,5,none⟩) lR _).setCell (p:=⟨w.heap.size+1,0,none⟩) (by simp) _).setCell (p:=⟨w.heap.size+1,1,none⟩) (by simp) _)
 have hk6:∀j,W2.heap.size<=j->W6.heap[j]? =w3.heap[j]? :=fun j hj=>by have:=HZ2.out;rw[<-hW6];exact(oth1 ((put6 w3 w.heap.size (.int .i64 i0) (.int .i64 i1) (.string s2) (.int .i64 i3) (.slice a4 n4 c4) (.slice a5 n5 c5)).setCell ⟨w.heap.size+1,0,none⟩ (.int .i64 fe)) 1 (.int .i64 fp) (by omega)).trans ((oth1 (put6 w3 w.heap.size (.int .i64 i0) (.int .i64 i1) (.string s2) (.int .i64 i3) (.slice a4 n4 c4) (.slice a5 n5 c5)) 0 (.int .i64 fe) (by omega)).trans (ZS (show j≠w.heap.size by omega) (.int .i64 i0) (.int .i64 i1) (.string s2) (.int .i64 i3) (.slice a4 n4 c4) (.slice a5 n5 c5)))
 have hz6:W6.heap.size=w3.heap.size:=by rw[<-hW6];exact(by simp[World.setCell]:(((put6 w3 w.heap.size (.int .i64 i0) (.int .i64 i1) (.string s2) (.int .i64 i3) (.slice a4 n4 c4) (.slice a5 n5 c5)).setCell ⟨w.heap.size+1,0,none⟩ (.int .i64 fe)).setCell ⟨w.heap.size+1,1,none⟩ (.int .i64 fp)).heap.size=(put6 w3 w.heap.size (.int .i64 i0) (.int .i64 i1) (.string s2) (.int .i64 i3) (.slice a4 n4 c4) (.slice a5 n5 c5)).heap.size).trans (Yu _ _ (.int .i64 i0) (.int .i64 i1) (.string s2) (.int .i64 i3) (.slice a4 n4 c4) (.slice a5 n5 c5))
 rw[hW6]
 obtain⟨⟨y0,y1,y2,y3,y4,y5⟩,-⟩:=c6 x61
 have h0:W6.cell? ⟨w.heap.size+1,0,none⟩=some (.int .i64 fe):=by simp[World.cell?,x62]
 have h1:W6.cell? ⟨w.heap.size+1,1,none⟩=some (.int .i64 fp):=by simp[World.cell?,x62]
 refine bodyPost_ret (v:= .tuple #[.agg #[.int .i64 i0,.int .i64 i1,.string s2,.int .i64 i3,.slice a4 n4 c4,.slice a5 n5 c5],.agg #[.int .i64 fe,.int .i64 fp]]) (by simp[results,Tryz.results16,go_sem,y0,y1,y2,y3,y4,y5,h0,h1]) rfl ?_
 exact HFIN.out w W6 hb6 (fun x hg=>lyTy.mono (fun j hj=>⟨lT HB2.out.size hj.1,by rw[hz6];exact hj.2⟩) (lyTy.keep (w':=W6) (fun j ob hj ho _=>(hk6 j hj.1).trans ho) hg))
theorem FN{w w':World}{r:Pr ⊕ (Int×Int)}{e:Ending}(h:WRes w r GPr (.agg (cN 0 ⟨#[]⟩ ⟨#[]⟩ sN sN sN)) e w'):∃(i0:Int) (s1:ByteArray) (s2:ByteArray) (a3:Option Addr) (n3 c3:Nat) (a4:Option Addr) (n4 c4:Nat) (i5:Int) (i6:Int) (s7:ByteArray) (i8:Int) (a9:Option Addr) (n9 c9:Nat) (a10:Option Addr) (n10 c10:Nat) (a11:Option Addr) (n11 c11:Nat) (fe fp:Int),e= .returned (.tuple #[.agg #[.int .i64 i0,.string s1,.string s2,.slice a3 n3 c3,.slice a4 n4 c4,.int .i64 i5,.int .i64 i6,.string s7,.int .i64 i8,.slice a9 n9 c9,.slice a10 n10 c10,.slice a11 n11 c11],.agg #[.int .i64 fe,.int .i64 fp]])/\Below w.heap.size w w'/\
 ∀(w0 W':World),Below w0.heap.size w0 W'->(∀x,GPr w.heap.size w' x (.agg #[.int .i64 i0,.string s1,.string s2,.slice a3 n3 c3,.slice a4 n4 c4,.int .i64 i5,.int .i64 i6,.string s7,.int .i64 i8,.slice a9 n9 c9,.slice a10 n10 c10,.slice a11 n11 c11])->GPr w0.heap.size W' x (.agg #[.int .i64 i0,.string s1,.string s2,.slice a3 n3 c3,.slice a4 n4 c4,.int .i64 i5,.int .i64 i6,.string s7,.int .i64 i8,.slice a9 n9 c9,.slice a10 n10 c10,.slice a11 n11 c11]))->WRes w0 r GPr (.agg (cN 0 ⟨#[]⟩ ⟨#[]⟩ sN sN sN)) (.returned (.tuple #[.agg #[.int .i64 i0,.string s1,.string s2,.slice a3 n3 c3,.slice a4 n4 c4,.int .i64 i5,.int .i64 i6,.string s7,.int .i64 i8,.slice a9 n9 c9,.slice a10 n10 c10,.slice a11 n11 c11],.agg #[.int .i64 fe,.int .i64 fp]])) W':=by
 match r with
 | .inr (er,p)=>
  obtain⟨rfl,hb⟩:=h
  exact⟨_,_,_,_,_,_,_,_,_,_,_,_,_,_,_,_,_,_,_,_,_,_,_,_,rfl,hb,fun w0 W' hb' _=>⟨rfl,hb'⟩⟩
 | .inl x=>
  obtain⟨⟨v,rfl,hg⟩,hb⟩:=h
  have hg0:=hg
  obtain⟨la,ln,lc,aa,an,ac,ta,tn,tc,ua,un,uc,ka,kn,kc,hv⟩:=PrVal.open hg
  subst hv
  exact⟨_,_,_,_,_,_,_,_,_,_,_,_,_,_,_,_,_,_,_,_,_,_,_,_,rfl,hb,fun w0 W' hb' hk=>⟨⟨_,rfl,hk x hg0⟩,hb'⟩⟩
theorem Um(s:ByteArray)(r:List Tok.Item ⊕ (Int×Int))(hr:Scans s r)(B:Nat)(w:World)(he:Tok.Env B w):
 Calls Tryz.prog 13 #[.string s] w (WRes w (ZP FK bigP s r) GPr (.agg (cN 0 ⟨#[]⟩ ⟨#[]⟩ sN sN sN))):=by
 obtain⟨W2,hW2⟩:∃W2,(w.alloc (.cells z12 31)).alloc (.cells #[.int .i64 0,.int .i64 0] 36)=W2:=⟨_,rfl⟩
 have hb2:Below w.heap.size w W2:=by rw[<-hW2];exact(bR.alloc lR _).alloc (by simp) _
 have hz2:W2.heap.size=w.heap.size+2:=by rw[<-hW2];simp
 have x1:W2.heap[w.heap.size]? =some (.cells z12 31 (0,0)):=by rw[<-hW2,Below.heap_alloc _ _ _ (by simp)];exact World.alloc_heap_new _ _
 have x2:W2.heap[w.heap.size+1]? =some (.cells #[.int .i64 0,.int .i64 0] 36 (0,0)):=by
  rw[<-hW2]
  have:=World.alloc_heap_new (w.alloc (.cells z12 31)) (.cells #[.int .i64 0,.int .i64 0] 36)
  rwa[World.size_alloc] at this
 have HW2:=hid hW2
 have HB2:=hid hb2
 have HX1:=hid x1
 have HX2:=hid x2
 have HZ2:=hid hz2
 have HT:=hid (FU s r hr B W2 (YY he hb2))
 obtain⟨R,hR⟩:∃R,ZP FK bigP s r=R:=⟨_,rfl⟩
 rw[hR] at HT |-
 clear hW2 hb2 x1 x2 he hr hR hz2
 go_enter Tryz.func13,Tryz.ntmps13
 go_upto_region 1 with fail
 rw[HW2.out]
 go_wp2_with (go_at_call 30;refine HT.out.mono ?_;rintro e w3 hres;obtain⟨i0,s1,s2,a3,n3,c3,a4,n4,c4,i5,i6,s7,i8,a9,n9,c9,a10,n10,c10,a11,n11,c11,fe,fp,rfl,hb3,hfin⟩:=FN hres;have x31:=(hb3.block _ (gl HX1.out)).trans HX1.out;have x32:=(hb3.block _ (gl HX2.out)).trans HX2.out;have HX31:=hid x31;have HX32:=hid x32;have HB23:=hid hb3;have HB3:=hid (HB2.out.trans (hb3.mono HB2.out.size));have HFIN:=hid hfin;obtain⟨⟨q0,q1,q2,q3,q4,q5,q6,q7,q8,q9,q10,q11⟩,z0,z1,z2,z3,z4,z5,z6,z7,z8,z9,z10,z11⟩:=c12p x31;have g0:w3.cell? ⟨w.heap.size+1,0,none⟩=some iZ:=(by simp[World.cell?,x32]);have g1:w3.cell? ⟨w.heap.size+1,1,none⟩=some iZ:=(by simp[World.cell?,x32]);have f0:=Qc x32 0;have f1:=Qc x32 1;clear hb3 hfin hres x31 x32)
 obtain⟨W6,hW6⟩:∃W6,((((((((((((((w3.setCell ⟨w.heap.size,0,none⟩ (.int .i64 i0)).setCell ⟨w.heap.size,1,none⟩ (.string s1)).setCell ⟨w.heap.size,2,none⟩ (.string s2)).setCell ⟨w.heap.size,3,none⟩ (.slice a3 n3 c3)).setCell ⟨w.heap.size,4,none⟩ (.slice a4 n4 c4)).setCell ⟨w.heap.size,5,none⟩ (.int .i64 i5)).setCell ⟨w.heap.size,6,none⟩ (.int .i64 i6)).setCell ⟨w.heap.size,7,none⟩ (.string s7)).setCell ⟨w.heap.size,8,none⟩ (.int .i64 i8)).setCell ⟨w.heap.size,9,none⟩ (.slice a9 n9 c9)).setCell ⟨w.heap.size,10,none⟩ (.slice a10 n10 c10)).setCell ⟨w.heap.size,11,none⟩ (.slice a11 n11 c11)).setCell ⟨w.heap.size+1,0,none⟩ (.int .i64 fe)).setCell ⟨w.heap.size+1,1,none⟩ (.int .i64 fp))=W6:=⟨_,rfl⟩
 have x61:W6.heap[w.heap.size]? =some (.cells #[.int .i64 i0,.string s1,.string s2,.slice a3 n3 c3,.slice a4 n4 c4,.int .i64 i5,.int .i64 i6,.string s7,.int .i64 i8,.slice a9 n9 c9,.slice a10 n10 c10,.slice a11 n11 c11] 31 (0,0)):=by rw[<-hW6];exact(oth1 ((put12 w3 w.heap.size (.int .i64 i0) (.string s1) (.string s2) (.slice a3 n3 c3) (.slice a4 n4 c4) (.int .i64 i5) (.int .i64 i6) (.string s7) (.int .i64 i8) (.slice a9 n9 c9) (.slice a10 n10 c10) (.slice a11 n11 c11)).setCell ⟨w.heap.size+1,0,none⟩ (.int .i64 fe)) 1 (.int .i64 fp) (by omega)).trans ((oth1 (put12 w3 w.heap.size (.int .i64 i0) (.string s1) (.string s2) (.slice a3 n3 c3) (.slice a4 n4 c4) (.int .i64 i5) (.int .i64 i6) (.string s7) (.int .i64 i8) (.slice a9 n9 c9) (.slice a10 n10 c10) (.slice a11 n11 c11)) 0 (.int .i64 fe) (by omega)).trans (JZ HX31.out (.int .i64 i0) (.string s1) (.string s2) (.slice a3 n3 c3) (.slice a4 n4 c4) (.int .i64 i5) (.int .i64 i6) (.string s7) (.int .i64 i8) (.slice a9 n9 c9) (.slice a10 n10 c10) (.slice a11 n11 c11)))
 have x62:W6.heap[w.heap.size+1]? =some (.cells #[.int .i64 fe,.int .i64 fp] 36 (0,0)):=by rw[<-hW6];exact Qd (Qd ((QN (w:=w3) (show w.heap.size+1≠w.heap.size by omega) (.int .i64 i0) (.string s1) (.string s2) (.slice a3 n3 c3) (.slice a4 n4 c4) (.int .i64 i5) (.int .i64 i6) (.string s7) (.int .i64 i8) (.slice a9 n9 c9) (.slice a10 n10 c10) (.slice a11 n11 c11)).trans HX32.out) 0 (.int .i64 fe)) 1 (.int .i64 fp)
 have hb6:Below w.heap.size w W6:=by rw[<-hW6];exact((((((((((((((HB3.out.setCell (p:=⟨w.heap.size,0,none⟩) lR _).setCell (p:=⟨w.heap.size,1,none⟩) lR _).setCell (p:=⟨w.heap.size,2,none⟩) lR _).setCell (p:=⟨w.heap.size,3,none⟩) lR _).setCell (p:=⟨w.heap.size,4,none⟩) lR _).setCell (p:=⟨w.heap.size,5,none⟩) lR _).setCell (p:=⟨w.heap.size,6,none⟩) lR _).setCell (p:=⟨w.heap.size,7,none⟩) lR _).setCell (p:=⟨w.heap.size,8,none⟩) lR _).setCell (p:=⟨w.heap.size,9,none⟩) lR _).setCell (p:=⟨w.heap.size,10,none⟩) lR _).setCell (p:=⟨w.heap.size,11,none⟩) lR _).setCell (p:=⟨w.heap.size+1,0,none⟩) (by simp) _).setCell (p:=⟨w.heap.size+1,1,none⟩) (by simp) _)
 have hk6:∀j,W2.heap.size<=j->W6.heap[j]? =w3.heap[j]? :=fun j hj=>by have:=HZ2.out;rw[<-hW6];exact(oth1 ((put12 w3 w.heap.size (.int .i64 i0) (.string s1) (.string s2) (.slice a3 n3 c3) (.slice a4 n4 c4) (.int .i64 i5) (.int .i64 i6) (.string s7) (.int .i64 i8) (.slice a9 n9 c9) (.slice a10 n10 c10) (.slice a11 n11 c11)).setCell ⟨w.heap.size+1,0,none⟩ (.int .i64 fe)) 1 (.int .i64 fp) (by omega)).trans ((oth1 (put12 w3 w.heap.size (.int .i64 i0) (.string s1) (.string s2) (.slice a3 n3 c3) (.slice a4 n4 c4) (.int .i64 i5) (.int .i64 i6) (.string s7) (.int .i64 i8) (.slice a9 n9 c9) (.slice a10 n10 c10) (.slice a11 n11 c11)) 0 (.int .i64 fe) (by omega)).trans (QN (show j≠w.heap.size by omega) (.int .i64 i0) (.string s1) (.string s2) (.slice a3 n3 c3) (.slice a4 n4 c4) (.int .i64 i5) (.int .i64 i6) (.string s7) (.int .i64 i8) (.slice a9 n9 c9) (.slice a10 n10 c10) (.slice a11 n11 c11)))
 have hz6:W6.heap.size=w3.heap.size:=by rw[<-hW6];exact(by simp[World.setCell]:(((put12 w3 w.heap.size (.int .i64 i0) (.string s1) (.string s2) (.slice a3 n3 c3) (.slice a4 n4 c4) (.int .i64 i5) (.int .i64 i6) (.string s7) (.int .i64 i8) (.slice a9 n9 c9) (.slice a10 n10 c10) (.slice a11 n11 c11)).setCell ⟨w.heap.size+1,0,none⟩ (.int .i64 fe)).setCell ⟨w.heap.size+1,1,none⟩ (.int .i64 fp)).heap.size=(put12 w3 w.heap.size (.int .i64 i0) (.string s1) (.string s2) (.slice a3 n3 c3) (.slice a4 n4 c4) (.int .i64 i5) (.int .i64 i6) (.string s7) (.int .i64 i8) (.slice a9 n9 c9) (.slice a10 n10 c10) (.slice a11 n11 c11)).heap.size).trans (QF _ _ (.int .i64 i0) (.string s1) (.string s2) (.slice a3 n3 c3) (.slice a4 n4 c4) (.int .i64 i5) (.int .i64 i6) (.string s7) (.int .i64 i8) (.slice a9 n9 c9) (.slice a10 n10 c10) (.slice a11 n11 c11))
 rw[hW6]
 obtain⟨⟨y0,y1,y2,y3,y4,y5,y6,y7,y8,y9,y10,y11⟩,-⟩:=c12p x61
 have h0:W6.cell? ⟨w.heap.size+1,0,none⟩=some (.int .i64 fe):=by simp[World.cell?,x62]
 have h1:W6.cell? ⟨w.heap.size+1,1,none⟩=some (.int .i64 fp):=by simp[World.cell?,x62]
 refine bodyPost_ret (v:= .tuple #[.agg #[.int .i64 i0,.string s1,.string s2,.slice a3 n3 c3,.slice a4 n4 c4,.int .i64 i5,.int .i64 i6,.string s7,.int .i64 i8,.slice a9 n9 c9,.slice a10 n10 c10,.slice a11 n11 c11],.agg #[.int .i64 fe,.int .i64 fp]]) (by simp[results,Tryz.results13,go_sem,y0,y1,y2,y3,y4,y5,y6,y7,y8,y9,y10,y11,h0,h1]) rfl ?_
 exact HFIN.out w W6 hb6 (fun x hg=>lyPr.mono (fun j hj=>⟨lT HB2.out.size hj.1,by rw[hz6];exact hj.2⟩) (lyPr.keep (w':=W6) (fun j ob hj ho _=>(hk6 j hj.1).trans ho) hg))
theorem FO{w w':World}{r:Pg ⊕ (Int×Int)}{e:Ending}(h:WRes w r GPg (.agg z13) e w'):∃(a0:Option Addr) (n0 c0:Nat) (i1:Int) (s2:ByteArray) (s3:ByteArray) (a4:Option Addr) (n4 c4:Nat) (a5:Option Addr) (n5 c5:Nat) (i6:Int) (i7:Int) (s8:ByteArray) (i9:Int) (a10:Option Addr) (n10 c10:Nat) (a11:Option Addr) (n11 c11:Nat) (a12:Option Addr) (n12 c12:Nat) (fe fp:Int),e= .returned (.tuple #[.agg #[.slice a0 n0 c0,.int .i64 i1,.string s2,.string s3,.slice a4 n4 c4,.slice a5 n5 c5,.int .i64 i6,.int .i64 i7,.string s8,.int .i64 i9,.slice a10 n10 c10,.slice a11 n11 c11,.slice a12 n12 c12],.agg #[.int .i64 fe,.int .i64 fp]])/\Below w.heap.size w w'/\
 ∀(w0 W':World),Below w0.heap.size w0 W'->(∀x,GPg w.heap.size w' x (.agg #[.slice a0 n0 c0,.int .i64 i1,.string s2,.string s3,.slice a4 n4 c4,.slice a5 n5 c5,.int .i64 i6,.int .i64 i7,.string s8,.int .i64 i9,.slice a10 n10 c10,.slice a11 n11 c11,.slice a12 n12 c12])->GPg w0.heap.size W' x (.agg #[.slice a0 n0 c0,.int .i64 i1,.string s2,.string s3,.slice a4 n4 c4,.slice a5 n5 c5,.int .i64 i6,.int .i64 i7,.string s8,.int .i64 i9,.slice a10 n10 c10,.slice a11 n11 c11,.slice a12 n12 c12]))->WRes w0 r GPg (.agg z13) (.returned (.tuple #[.agg #[.slice a0 n0 c0,.int .i64 i1,.string s2,.string s3,.slice a4 n4 c4,.slice a5 n5 c5,.int .i64 i6,.int .i64 i7,.string s8,.int .i64 i9,.slice a10 n10 c10,.slice a11 n11 c11,.slice a12 n12 c12],.agg #[.int .i64 fe,.int .i64 fp]])) W':=by
 match r with
 | .inr (er,p)=>
  obtain⟨rfl,hb⟩:=h
  exact⟨_,_,_,_,_,_,_,_,_,_,_,_,_,_,_,_,_,_,_,_,_,_,_,_,_,_,_,rfl,hb,fun w0 W' hb' _=>⟨rfl,hb'⟩⟩
 | .inl x=>
  obtain⟨⟨v,rfl,hg⟩,hb⟩:=h
  have hg0:=hg
  obtain⟨da,dn,dc,la,ln,lc,aa,an,ac,ta,tn,tc,ua,un,uc,ka,kn,kc,hv⟩:=PgVal.open13 hg
  subst hv
  exact⟨_,_,_,_,_,_,_,_,_,_,_,_,_,_,_,_,_,_,_,_,_,_,_,_,_,_,_,rfl,hb,fun w0 W' hb' hk=>⟨⟨_,rfl,hk x hg0⟩,hb'⟩⟩
theorem Ul(s:ByteArray)(r:List Tok.Item ⊕ (Int×Int))(hr:Scans s r)(B:Nat)(w:World)(he:Tok.Env B w):
 Calls Tryz.prog 9 #[.string s] w (WRes w (ZP KF Pg.tooBig s r) GPg (.agg z13)):=by
 obtain⟨W2,hW2⟩:∃W2,(w.alloc (.cells z13 33)).alloc (.cells #[.int .i64 0,.int .i64 0] 36)=W2:=⟨_,rfl⟩
 have hb2:Below w.heap.size w W2:=by rw[<-hW2];exact(bR.alloc lR _).alloc (by simp) _
 have hz2:W2.heap.size=w.heap.size+2:=by rw[<-hW2];simp
 have x1:W2.heap[w.heap.size]? =some (.cells z13 33 (0,0)):=by rw[<-hW2,Below.heap_alloc _ _ _ (by simp)];exact World.alloc_heap_new _ _
 have x2:W2.heap[w.heap.size+1]? =some (.cells #[.int .i64 0,.int .i64 0] 36 (0,0)):=by
  rw[<-hW2]
  have:=World.alloc_heap_new (w.alloc (.cells z13 33)) (.cells #[.int .i64 0,.int .i64 0] 36)
  rwa[World.size_alloc] at this
 have HW2:=hid hW2
 have HB2:=hid hb2
 have HX1:=hid x1
 have HX2:=hid x2
 have HZ2:=hid hz2
 have HT:=hid (FW s r hr B W2 (YY he hb2))
 obtain⟨R,hR⟩:∃R,ZP KF Pg.tooBig s r=R:=⟨_,rfl⟩
 rw[hR] at HT |-
 clear hW2 hb2 x1 x2 he hr hR hz2
 go_enter Tryz.func9,Tryz.ntmps9
 go_upto_region 1 with fail
 rw[HW2.out]
 go_wp2_with (go_at_call 23;refine HT.out.mono ?_;rintro e w3 hres;obtain⟨a0,n0,c0,i1,s2,s3,a4,n4,c4,a5,n5,c5,i6,i7,s8,i9,a10,n10,c10,a11,n11,c11,a12,n12,c12,fe,fp,rfl,hb3,hfin⟩:=FO hres;have x31:=(hb3.block _ (gl HX1.out)).trans HX1.out;have x32:=(hb3.block _ (gl HX2.out)).trans HX2.out;have HX31:=hid x31;have HX32:=hid x32;have HB23:=hid hb3;have HB3:=hid (HB2.out.trans (hb3.mono HB2.out.size));have HFIN:=hid hfin;obtain⟨⟨q0,q1,q2,q3,q4,q5,q6,q7,q8,q9,q10,q11,q12⟩,z0,z1,z2,z3,z4,z5,z6,z7,z8,z9,z10,z11,z12⟩:=c13p x31;have g0:w3.cell? ⟨w.heap.size+1,0,none⟩=some iZ:=(by simp[World.cell?,x32]);have g1:w3.cell? ⟨w.heap.size+1,1,none⟩=some iZ:=(by simp[World.cell?,x32]);have f0:=Qc x32 0;have f1:=Qc x32 1;clear hb3 hfin hres x31 x32)
 obtain⟨W6,hW6⟩:∃W6,(((((((((((((((w3.setCell ⟨w.heap.size,0,none⟩ (.slice a0 n0 c0)).setCell ⟨w.heap.size,1,none⟩ (.int .i64 i1)).setCell ⟨w.heap.size,2,none⟩ (.string s2)).setCell ⟨w.heap.size,3,none⟩ (.string s3)).setCell ⟨w.heap.size,4,none⟩ (.slice a4 n4 c4)).setCell ⟨w.heap.size,5,none⟩ (.slice a5 n5 c5)).setCell ⟨w.heap.size,6,none⟩ (.int .i64 i6)).setCell ⟨w.heap.size,7,none⟩ (.int .i64 i7)).setCell ⟨w.heap.size,8,none⟩ (.string s8)).setCell ⟨w.heap.size,9,none⟩ (.int .i64 i9)).setCell ⟨w.heap.size,10,none⟩ (.slice a10 n10 c10)).setCell ⟨w.heap.size,11,none⟩ (.slice a11 n11 c11)).setCell ⟨w.heap.size,12,none⟩ (.slice a12 n12 c12)).setCell ⟨w.heap.size+1,0,none⟩ (.int .i64 fe)).setCell ⟨w.heap.size+1,1,none⟩ (.int .i64 fp))=W6:=⟨_,rfl⟩
 have x61:W6.heap[w.heap.size]? =some (.cells #[.slice a0 n0 c0,.int .i64 i1,.string s2,.string s3,.slice a4 n4 c4,.slice a5 n5 c5,.int .i64 i6,.int .i64 i7,.string s8,.int .i64 i9,.slice a10 n10 c10,.slice a11 n11 c11,.slice a12 n12 c12] 33 (0,0)):=by rw[<-hW6];exact(oth1 ((put13 w3 w.heap.size (.slice a0 n0 c0) (.int .i64 i1) (.string s2) (.string s3) (.slice a4 n4 c4) (.slice a5 n5 c5) (.int .i64 i6) (.int .i64 i7) (.string s8) (.int .i64 i9) (.slice a10 n10 c10) (.slice a11 n11 c11) (.slice a12 n12 c12)).setCell ⟨w.heap.size+1,0,none⟩ (.int .i64 fe)) 1 (.int .i64 fp) (by omega)).trans ((oth1 (put13 w3 w.heap.size (.slice a0 n0 c0) (.int .i64 i1) (.string s2) (.string s3) (.slice a4 n4 c4) (.slice a5 n5 c5) (.int .i64 i6) (.int .i64 i7) (.string s8) (.int .i64 i9) (.slice a10 n10 c10) (.slice a11 n11 c11) (.slice a12 n12 c12)) 0 (.int .i64 fe) (by omega)).trans (UC HX31.out (.slice a0 n0 c0) (.int .i64 i1) (.string s2) (.string s3) (.slice a4 n4 c4) (.slice a5 n5 c5) (.int .i64 i6) (.int .i64 i7) (.string s8) (.int .i64 i9) (.slice a10 n10 c10) (.slice a11 n11 c11) (.slice a12 n12 c12)))
 have x62:W6.heap[w.heap.size+1]? =some (.cells #[.int .i64 fe,.int .i64 fp] 36 (0,0)):=by rw[<-hW6];exact Qd (Qd ((ZH (w:=w3) (show w.heap.size+1≠w.heap.size by omega) (.slice a0 n0 c0) (.int .i64 i1) (.string s2) (.string s3) (.slice a4 n4 c4) (.slice a5 n5 c5) (.int .i64 i6) (.int .i64 i7) (.string s8) (.int .i64 i9) (.slice a10 n10 c10) (.slice a11 n11 c11) (.slice a12 n12 c12)).trans HX32.out) 0 (.int .i64 fe)) 1 (.int .i64 fp)
 have hb6:Below w.heap.size w W6:=by rw[<-hW6];exact(((((((((((((((HB3.out.setCell (p:=⟨w.heap.size,0,none⟩) lR _).setCell (p:=⟨w.heap.size,1,none⟩) lR _).setCell (p:=⟨w.heap.size,2,none⟩) lR _).setCell (p:=⟨w.heap.size,3,none⟩) lR _).setCell (p:=⟨w.heap.size,4,none⟩) lR _).setCell (p:=⟨w.heap.size,5,none⟩) lR _).setCell (p:=⟨w.heap.size,6,none⟩) lR _).setCell (p:=⟨w.heap.size,7,none⟩) lR _).setCell (p:=⟨w.heap.size,8,none⟩) lR _).setCell (p:=⟨w.heap.size,9,none⟩) lR _).setCell (p:=⟨w.heap.size,10,none⟩) lR _).setCell (p:=⟨w.heap.size,11,none⟩) lR _).setCell (p:=⟨w.heap.size,12,none⟩) lR _).setCell (p:=⟨w.heap.size+1,0,none⟩) (by simp) _).setCell (p:=⟨w.heap.size+1,1,none⟩) (by simp) _)
 have hk6:∀j,W2.heap.size<=j->W6.heap[j]? =w3.heap[j]? :=fun j hj=>by have:=HZ2.out;rw[<-hW6];exact(oth1 ((put13 w3 w.heap.size (.slice a0 n0 c0) (.int .i64 i1) (.string s2) (.string s3) (.slice a4 n4 c4) (.slice a5 n5 c5) (.int .i64 i6) (.int .i64 i7) (.string s8) (.int .i64 i9) (.slice a10 n10 c10) (.slice a11 n11 c11) (.slice a12 n12 c12)).setCell ⟨w.heap.size+1,0,none⟩ (.int .i64 fe)) 1 (.int .i64 fp) (by omega)).trans ((oth1 (put13 w3 w.heap.size (.slice a0 n0 c0) (.int .i64 i1) (.string s2) (.string s3) (.slice a4 n4 c4) (.slice a5 n5 c5) (.int .i64 i6) (.int .i64 i7) (.string s8) (.int .i64 i9) (.slice a10 n10 c10) (.slice a11 n11 c11) (.slice a12 n12 c12)) 0 (.int .i64 fe) (by omega)).trans (ZH (show j≠w.heap.size by omega) (.slice a0 n0 c0) (.int .i64 i1) (.string s2) (.string s3) (.slice a4 n4 c4) (.slice a5 n5 c5) (.int .i64 i6) (.int .i64 i7) (.string s8) (.int .i64 i9) (.slice a10 n10 c10) (.slice a11 n11 c11) (.slice a12 n12 c12)))
 have hz6:W6.heap.size=w3.heap.size:=by rw[<-hW6];exact(by simp[World.setCell]:(((put13 w3 w.heap.size (.slice a0 n0 c0) (.int .i64 i1) (.string s2) (.string s3) (.slice a4 n4 c4) (.slice a5 n5 c5) (.int .i64 i6) (.int .i64 i7) (.string s8) (.int .i64 i9) (.slice a10 n10 c10) (.slice a11 n11 c11) (.slice a12 n12 c12)).setCell ⟨w.heap.size+1,0,none⟩ (.int .i64 fe)).setCell ⟨w.heap.size+1,1,none⟩ (.int .i64 fp)).heap.size=(put13 w3 w.heap.size (.slice a0 n0 c0) (.int .i64 i1) (.string s2) (.string s3) (.slice a4 n4 c4) (.slice a5 n5 c5) (.int .i64 i6) (.int .i64 i7) (.string s8) (.int .i64 i9) (.slice a10 n10 c10) (.slice a11 n11 c11) (.slice a12 n12 c12)).heap.size).trans (Zw _ _ (.slice a0 n0 c0) (.int .i64 i1) (.string s2) (.string s3) (.slice a4 n4 c4) (.slice a5 n5 c5) (.int .i64 i6) (.int .i64 i7) (.string s8) (.int .i64 i9) (.slice a10 n10 c10) (.slice a11 n11 c11) (.slice a12 n12 c12))
 rw[hW6]
 obtain⟨⟨y0,y1,y2,y3,y4,y5,y6,y7,y8,y9,y10,y11,y12⟩,-⟩:=c13p x61
 have h0:W6.cell? ⟨w.heap.size+1,0,none⟩=some (.int .i64 fe):=by simp[World.cell?,x62]
 have h1:W6.cell? ⟨w.heap.size+1,1,none⟩=some (.int .i64 fp):=by simp[World.cell?,x62]
 refine bodyPost_ret (v:= .tuple #[.agg #[.slice a0 n0 c0,.int .i64 i1,.string s2,.string s3,.slice a4 n4 c4,.slice a5 n5 c5,.int .i64 i6,.int .i64 i7,.string s8,.int .i64 i9,.slice a10 n10 c10,.slice a11 n11 c11,.slice a12 n12 c12],.agg #[.int .i64 fe,.int .i64 fp]]) (by simp[results,Tryz.results9,go_sem,y0,y1,y2,y3,y4,y5,y6,y7,y8,y9,y10,y11,y12,h0,h1]) rfl ?_
 exact HFIN.out w W6 hb6 (fun x hg=>lyPg.mono (fun j hj=>⟨lT HB2.out.size hj.1,by rw[hz6];exact hj.2⟩) (lyPg.keep (w':=W6) (fun j ob hj ho _=>(hk6 j hj.1).trans ho) hg))
end Go.Proofs.YtmnbheplkidfaaaGreatDoor
namespace Go.Proofs.YtmnbheplkidfaaaGreatDoor
open Go.RowKit Go.Deep Go.Shelf
abbrev xs1:ByteArray:=⟨#[97,33,60,49,62,46,98,46,103,111,46,115,116,111,112,32,124,32,88,60,62]⟩
theorem xsc1:Scans xs1 (.inl (its xs1)):=⟨by decide,rfl,by decide+kernel⟩
abbrev xs2:ByteArray:=⟨#[97,33,60,49,62]⟩
theorem xsc2:Scans xs2 (.inl (its xs2)):=⟨by decide,rfl,by decide+kernel⟩
abbrev xs3:ByteArray:=⟨#[100,101,102,32,88,40,97,58,32,33,51,32,105,110,116,46,114,101,99,32,116,46,63,116,43,50,46,116,41,32,61,32,115,116,111,112,59,32,109,97,105,110,32,61,32,88,60,62,59]⟩
theorem xsc3:Scans xs3 (.inl (its xs3)):=⟨by decide,rfl,by decide+kernel⟩
abbrev xs4:ByteArray:=⟨#[43,55,123,108,58,32,101,110,100,125]⟩
theorem xsc4:Scans xs4 (.inl (its xs4)):=⟨by decide,rfl,by decide+kernel⟩
abbrev xp1:Pr:=(Pr.mk 7 ⟨#[]⟩ ⟨#[]⟩ [] [] (.mk 0 0 ⟨#[]⟩ 0 [] []) [Pr.mk 2 ⟨#[97]⟩ ⟨#[]⟩ [] [⟨2,⟨#[]⟩,1⟩] (.mk 0 0 ⟨#[]⟩ 0 [] []) [Pr.mk 4 ⟨#[98]⟩ ⟨#[]⟩ [⟨#[103,111]⟩] [] (.mk 0 0 ⟨#[]⟩ 0 [] []) [(Pr.mk 1 ⟨#[]⟩ ⟨#[]⟩ [] [] (.mk 0 0 ⟨#[]⟩ 0 [] []) [])]],(Pr.mk 8 ⟨#[88]⟩ ⟨#[]⟩ [] [] (.mk 0 0 ⟨#[]⟩ 0 [] []) [])])
abbrev xp3:Pg:=(Pg.mk [⟨⟨#[88]⟩,[⟨⟨#[97]⟩,(Ty.mk 4 3 ⟨#[]⟩ 0 [] [.mk 1 0 ⟨#[]⟩ 0 [] [],.mk 8 0 ⟨#[116]⟩ 0 [] [.mk 5 0 ⟨#[]⟩ 0 [] [.mk 9 0 ⟨#[116]⟩ 2 [] [],.mk 9 0 ⟨#[116]⟩ 0 [] []]]])⟩],(Pr.mk 1 ⟨#[]⟩ ⟨#[]⟩ [] [] (.mk 0 0 ⟨#[]⟩ 0 [] []) [])⟩] (Pr.mk 8 ⟨#[88]⟩ ⟨#[]⟩ [] [] (.mk 0 0 ⟨#[]⟩ 0 [] []) []))
abbrev xp4:Ty:=(Ty.mk 6 7 ⟨#[]⟩ 0 [⟨#[108]⟩] [.mk 3 0 ⟨#[]⟩ 0 [] []])
theorem xw1:ZP FK bigP xs1 (.inl (its xs1))= .inl xp1:=by kernel_rfl
theorem xw2:ZP FK bigP xs2 (.inl (its xs2))= .inr (1,5):=by kernel_rfl
theorem xw3:ZP KF Pg.tooBig xs3 (.inl (its xs3))= .inl xp3:=by kernel_rfl
theorem xw4:ZP Rl Ty.tooBig xs4 (.inl (its xs4))= .inl xp4:=by kernel_rfl
end Go.Proofs.YtmnbheplkidfaaaGreatDoor
namespace Go.Proofs.YtmnbheplkidfaaaGreatDoor
open Go.Lib (hid)
open Go.RowKit Go.Deep Go.Shelf
theorem xf1{b:Nat}{w:World}{v:Value}(h:GPr b w xp1 v):∃la ln lc aa an ac ta tn tc ua un uc kb ko kc,v= .agg #[.int .i64 7,.string ⟨#[]⟩,.string ⟨#[]⟩,.slice la ln lc,.slice aa an ac,.int .i64 0,.int .i64 0,.string ⟨#[]⟩,.int .i64 0,.slice ta tn tc,.slice ua un uc,.slice (some ⟨kb,ko,none⟩) 2 kc]/\kb<w.heap.size/\w.cell? ⟨kb,ko,none⟩=some (.int .i64 2)/\w.cell? ⟨kb,ko+12+1,none⟩=some (.string ⟨#[88]⟩):=by
 obtain⟨la,ln,lc,aa,an,ac,ta,tn,tc,ua,un,uc,ka,kn,kc,e⟩:=PrVal.open h
 obtain⟨lv,av,tl,tk,kv,e2,_,_,_,_,hk,_⟩:=h
 rw[e] at e2
 simp only[QW,Value.agg.injEq,Array.mk.injEq,List.cons.injEq,and_true,true_and] at e2
 obtain⟨-,-,-,-,ekv⟩:=e2
 subst ekv
 rcases hk with⟨_,h0⟩|⟨kb,ko,c,ek,hB,hps⟩
 ·exact absurd h0 (by simp[Pr.ps])
 ·simp only[Value.slice.injEq] at ek
  obtain⟨rfl,rfl,rfl⟩:=ek
  dsimp only[xp1,Pr.ps] at hps
  simp only[PrsAt] at hps
  obtain⟨p1,p2,_⟩:=hps
  exact⟨la,ln,lc,aa,an,ac,ta,tn,tc,ua,un,uc,kb,ko,kc,e,hB.2,(PrAt.eq.1 p1).2.2.1.1,(PrAt.eq.1 p2).2.2.1.2.1⟩
theorem xf3{b:Nat}{w:World}{v:Value}(h:GPg b w xp3 v):∃db dd dc la ln lc aa an ac ta tn tc ua un uc ka kn kc mb mo mc,v= .agg #[.slice (some ⟨db,dd,none⟩) 1 dc,.int .i64 8,.string ⟨#[88]⟩,.string ⟨#[]⟩,.slice la ln lc,.slice aa an ac,.int .i64 0,.int .i64 0,.string ⟨#[]⟩,.int .i64 0,.slice ta tn tc,.slice ua un uc,.slice ka kn kc]/\db<w.heap.size/\w.cell? ⟨db,dd+1,none⟩=some (.slice (some ⟨mb,mo,none⟩) 1 mc)/\mb<w.heap.size/\w.cell? ⟨mb,mo+1+1,none⟩=some (.int .i64 3):=by
 obtain⟨da,dn,dc,la,ln,lc,aa,an,ac,ta,tn,tc,ua,un,uc,ka,kn,kc,e⟩:=PgVal.open13 h
 obtain⟨dv,lv,av,tl,tk,kv,e2,hd,_⟩:=h
 rw[e] at e2
 simp only[Value.agg.injEq,Array.mk.injEq,List.cons.injEq,and_true,true_and] at e2
 obtain⟨ed,-⟩:=e2
 subst ed
 rcases hd with⟨⟨_,h0⟩|⟨db,dd,c,ek,hB,hps⟩,_⟩
 ·cases h0
 ·simp only[Value.slice.injEq] at ek
  obtain⟨rfl,rfl,rfl⟩:=ek
  obtain⟨_,_,⟨mv,hm,hms⟩,_⟩:=hps 0 _ rfl
  rcases hms with⟨⟨_,h0⟩|⟨mb,mo,mc,rfl,hmB,hpm⟩,_⟩
  ·cases h0
  ·obtain⟨_,_,ht⟩:=hpm 0 _ rfl
   refine⟨db,dd,dc,la,ln,lc,aa,an,ac,ta,tn,tc,ua,un,uc,ka,kn,kc,mb,mo,mc,e,hB.2,?_,hmB.2,?_⟩
   ·have:=hm;rw[show dd+0*14+1=dd+1 by omega] at this;exact this
   ·have:=(TyAt.eq.1 ht).2.2.1.2.1;rw[show mo+0*7+1+1=mo+1+1 by omega] at this;exact this
theorem xf4{b:Nat}{w:World}{v:Value}(h:GTy b w xp4 v):∃la ln lc ka kn kc,v= .agg #[.int .i64 6,.int .i64 7,.string ⟨#[]⟩,.int .i64 0,.slice la ln lc,.slice ka kn kc]:=TyVal.open6 h
theorem Zt(w:World)(c1 c2:Array Value)(t1 t2:TypeId):((w.alloc (.cells c1 t1)).alloc (.cells c2 t2)).heap[w.heap.size]? =some (.cells c1 t1 (0,0))/\((w.alloc (.cells c1 t1)).alloc (.cells c2 t2)).heap[w.heap.size+1]? =some (.cells c2 t2 (0,0))/\Below w.heap.size w ((w.alloc (.cells c1 t1)).alloc (.cells c2 t2)):=by
 refine⟨(Below.heap_alloc _ _ _ (by rw[World.size_alloc];omega)).trans (World.alloc_heap_new _ _),?_,(bR.alloc lR _).alloc (by simp) _⟩
 have h:=World.alloc_heap_new (w.alloc (.cells c1 t1)) (.cells c2 t2)
 rw[World.size_alloc] at h
 exact h
theorem DN(B:Nat)(w:World)(he:Tok.Env B w):Calls Tryz.prog 8 #[] w fun e w'=>e= .returned (.bool true)/\Below w.heap.size w w':=by
 have HE:=hid (fun W (hW:Below w.heap.size w W)=>YY he hW)
 have HBS:Hid (Below w.heap.size w w):=hid bR
 clear he
 go_enter Tryz.func8,Tryz.ntmps8
 go_upto_region 2 with(go_at_call 13;refine(Um _ _ xsc1 B _ (HE.out _ HBS.out)).mono ?_;rw[xw1];rintro en w1⟨⟨_,rfl,hg⟩,hb⟩;obtain⟨la,ln,lc,aa,an,ac,ta,tn,tc,ua,un,uc,kb,ko,kc,rfl,hkb,hk1,hk2⟩:=xf1 hg;have HK1:=hid (And.intro hkb (And.intro hk1 hk2));clear hkb hk1 hk2 hg;have HBn:=hid (Qf HBS.out hb);clear hb HBS;have HBS:=HBn;clear HBn)
 obtain⟨a1,ha1⟩:∃a,w1.heap.size=a:=⟨_,rfl⟩
 have htw:=Zt w1 #[.int .i64 7,.string ⟨#[]⟩,.string ⟨#[]⟩,.slice la ln lc,.slice aa an ac,.int .i64 0,.int .i64 0,.string ⟨#[]⟩,.int .i64 0,.slice ta tn tc,.slice ua un uc,.slice (some ⟨kb,ko,none⟩) 2 kc] #[.int .i64 0,.int .i64 0] 31 36
 obtain⟨W1,hW1⟩:∃W,(w1.alloc (.cells #[.int .i64 7,.string ⟨#[]⟩,.string ⟨#[]⟩,.slice la ln lc,.slice aa an ac,.int .i64 0,.int .i64 0,.string ⟨#[]⟩,.int .i64 0,.slice ta tn tc,.slice ua un uc,.slice (some ⟨kb,ko,none⟩) 2 kc] 31)).alloc (.cells #[.int .i64 0,.int .i64 0] 36)=W:=⟨_,rfl⟩
 rw[hW1,ha1] at htw
 rw[hW1]
 rw[ha1]
 have HA1:=hid ha1
 have HBn:=hid (Qf HBS.out (htw.2.2.mono (Nat.le_of_eq ha1)))
 clear HBS ha1 hW1
 have HBS:=HBn
 clear HBn
 have HX1:=hid htw
 clear htw
 go_upto_region 3 with(go_at_call 13;refine(Um _ _ xsc2 B _ (HE.out _ HBS.out)).mono ?_;rw[xw2];rintro en w2⟨rfl,hb⟩;have HC2:=hid hb;have HBn:=hid (Qf HBS.out hb);clear hb HBS;have HBS:=HBn;clear HBn)
 obtain⟨a2,ha2⟩:∃a,w2.heap.size=a:=⟨_,rfl⟩
 have htw:=Zt w2 (cN 0 ⟨#[]⟩ ⟨#[]⟩ sN sN sN) #[.int .i64 1,.int .i64 5] 31 36
 obtain⟨W2,hW2⟩:∃W,(w2.alloc (.cells z12 31)).alloc (.cells #[.int .i64 1,.int .i64 5] 36)=W:=⟨_,rfl⟩
 rw[hW2,ha2] at htw
 rw[hW2]
 rw[ha2]
 have HA2:=hid ha2
 have HBn:=hid (Qf HBS.out (htw.2.2.mono (Nat.le_of_eq ha2)))
 clear HBS ha2 hW2
 have HBS:=HBn
 clear HBn
 have HX2:=hid htw
 clear htw
 go_upto_region 4 with(go_at_call 9;refine(Ul _ _ xsc3 B _ (HE.out _ HBS.out)).mono ?_;rw[xw3];rintro en w3⟨⟨_,rfl,hg⟩,hb⟩;have HC3:=hid hb;obtain⟨db,dd,dc,la3,ln3,lc3,aa3,an3,ac3,ta3,tn3,tc3,ua3,un3,uc3,ka3,kn3,kc3,mb,mo,mc,rfl,hdb,hd1,hmb,hm1⟩:=xf3 hg;have HK3:=hid (And.intro hdb (And.intro hd1 (And.intro hmb hm1)));clear hdb hd1 hmb hm1 hg;have HBn:=hid (Qf HBS.out hb);clear hb HBS;have HBS:=HBn;clear HBn)
 obtain⟨a3,ha3⟩:∃a,w3.heap.size=a:=⟨_,rfl⟩
 have htw:=Zt w3 #[.slice (some ⟨db,dd,none⟩) 1 dc,.int .i64 8,.string ⟨#[88]⟩,.string ⟨#[]⟩,.slice la3 ln3 lc3,.slice aa3 an3 ac3,.int .i64 0,.int .i64 0,.string ⟨#[]⟩,.int .i64 0,.slice ta3 tn3 tc3,.slice ua3 un3 uc3,.slice ka3 kn3 kc3] #[.int .i64 0,.int .i64 0] 33 36
 obtain⟨W3,hW3⟩:∃W,(w3.alloc (.cells #[.slice (some ⟨db,dd,none⟩) 1 dc,.int .i64 8,.string ⟨#[88]⟩,.string ⟨#[]⟩,.slice la3 ln3 lc3,.slice aa3 an3 ac3,.int .i64 0,.int .i64 0,.string ⟨#[]⟩,.int .i64 0,.slice ta3 tn3 tc3,.slice ua3 un3 uc3,.slice ka3 kn3 kc3] 33)).alloc (.cells #[.int .i64 0,.int .i64 0] 36)=W:=⟨_,rfl⟩
 rw[hW3,ha3] at htw
 rw[hW3]
 rw[ha3]
 have HA3:=hid ha3
 have HBn:=hid (Qf HBS.out (htw.2.2.mono (Nat.le_of_eq ha3)))
 clear HBS ha3 hW3
 have HBS:=HBn
 clear HBn
 have HX3:=hid htw
 clear htw
 go_upto_region 5 with(go_at_call 16;refine(TK _ _ xsc4 B _ (HE.out _ HBS.out)).mono ?_;rw[xw4];rintro en w4⟨⟨_,rfl,hg⟩,hb⟩;have HC4:=hid hb;obtain⟨la4,ln4,lc4,ka4,kn4,kc4,rfl⟩:=xf4 hg;clear hg;have HBn:=hid (Qf HBS.out hb);clear hb HBS;have HBS:=HBn;clear HBn)
 obtain⟨a4,ha4⟩:∃a,w4.heap.size=a:=⟨_,rfl⟩
 have htw:=Zt w4 #[.int .i64 6,.int .i64 7,.string ⟨#[]⟩,.int .i64 0,.slice la4 ln4 lc4,.slice ka4 kn4 kc4] #[.int .i64 0,.int .i64 0] 28 36
 obtain⟨W4,hW4⟩:∃W,(w4.alloc (.cells #[.int .i64 6,.int .i64 7,.string ⟨#[]⟩,.int .i64 0,.slice la4 ln4 lc4,.slice ka4 kn4 kc4] 28)).alloc (.cells #[.int .i64 0,.int .i64 0] 36)=W:=⟨_,rfl⟩
 rw[hW4,ha4] at htw
 rw[hW4]
 rw[ha4]
 have HA4:=hid ha4
 have HBn:=hid (Qf HBS.out (htw.2.2.mono (Nat.le_of_eq ha4)))
 clear HBS ha4 hW4
 have HBS:=HBn
 clear HBn
 have HX4:=hid htw
 clear htw
 have h34:Below W3.heap.size W3 W4:=HC4.out.trans (HX4.out.2.2.mono (lT HC4.out.size (Nat.le_of_eq HA4.out)))
 have h3e:Below w3.heap.size w3 W4:=Qf (HX3.out.2.2.mono (Nat.le_of_eq HA3.out)) h34
 have h2e:Below W2.heap.size W2 W4:=Qf HC3.out h3e
 have h1e:Below W1.heap.size W1 W4:=Qf (Qf HC2.out (HX2.out.2.2.mono (Nat.le_of_eq HA2.out))) h2e
 have h0e:Below w1.heap.size w1 W4:=Qf (HX1.out.2.2.mono (Nat.le_of_eq HA1.out)) h1e
 have q1:=(h1e.block _ (Array.getElem?_eq_some_iff.1 HX1.out.1).1).trans HX1.out.1
 have q2:=(h1e.block _ (Array.getElem?_eq_some_iff.1 HX1.out.2.1).1).trans HX1.out.2.1
 have q4:=(h2e.block _ (Array.getElem?_eq_some_iff.1 HX2.out.2.1).1).trans HX2.out.2.1
 have q5:=(h34.block _ (Array.getElem?_eq_some_iff.1 HX3.out.1).1).trans HX3.out.1
 have q6:=(h34.block _ (Array.getElem?_eq_some_iff.1 HX3.out.2.1).1).trans HX3.out.2.1
 have q7:=HX4.out.1
 have q8:=HX4.out.2.1
 have c10:W4.cell? ⟨a1,0,none⟩=some (.int .i64 7):=by simp only[World.cell?,q1];rfl
 have c11:W4.cell? ⟨a1,11,none⟩=some (.slice (some ⟨kb,ko,none⟩) 2 kc):=by simp only[World.cell?,q1];rfl
 have c20:W4.cell? ⟨a1+1,0,none⟩=some iZ:=by simp only[World.cell?,q2];rfl
 have c21:W4.cell? ⟨a1+1,1,none⟩=some iZ:=by simp only[World.cell?,q2];rfl
 have c40:W4.cell? ⟨a2+1,0,none⟩=some (.int .i64 1):=by simp only[World.cell?,q4];rfl
 have c41:W4.cell? ⟨a2+1,1,none⟩=some (.int .i64 5):=by simp only[World.cell?,q4];rfl
 have c50:W4.cell? ⟨a3,0,none⟩=some (.slice (some ⟨db,dd,none⟩) 1 dc):=by simp only[World.cell?,q5];rfl
 have c51:W4.cell? ⟨a3,1,none⟩=some (.int .i64 8):=by simp only[World.cell?,q5];rfl
 have c60:W4.cell? ⟨a3+1,0,none⟩=some iZ:=by simp only[World.cell?,q6];rfl
 have c61:W4.cell? ⟨a3+1,1,none⟩=some iZ:=by simp only[World.cell?,q6];rfl
 have c71:W4.cell? ⟨a4,1,none⟩=some (.int .i64 7):=by simp only[World.cell?,q7];rfl
 have c80:W4.cell? ⟨a4+1,0,none⟩=some iZ:=by simp only[World.cell?,q8];rfl
 have c81:W4.cell? ⟨a4+1,1,none⟩=some iZ:=by simp only[World.cell?,q8];rfl
 have k1:=(h0e.cell (p:=⟨kb,ko,none⟩) HK1.out.1).trans HK1.out.2.1
 have k2:=(h0e.cell (p:=⟨kb,ko+12+1,none⟩) HK1.out.1).trans HK1.out.2.2
 have d1:=(h3e.cell (p:=⟨db,dd+1,none⟩) HK3.out.1).trans HK3.out.2.1
 have m1:=(h3e.cell (p:=⟨mb,mo+1+1,none⟩) HK3.out.2.2.1).trans HK3.out.2.2.2
 clear q1 q2 q4 q5 q6 q7 q8 h34 h3e h2e h1e h0e HX1 HX2 HX3 HX4 HK1 HK3 HC2 HC3 HC4 HA1 HA2 HA3 HA4 HE
 go_upto_region 7 with fail
 go_wp2_with fail
 go_ret
 exact⟨rfl,HBS.out⟩
end Go.Proofs.YtmnbheplkidfaaaGreatDoor
namespace Go.Proofs.YtmnbheplkidfaaaGreatDoor
open Go.RowKit Go.Deep Go.Shelf
theorem SQ(w:World):(sizeOf 3).run Tryz.prog w= .ok 1 w:=by kernel_rfl
theorem Wr(w:World)(a b:Int):(part 3 #[.int .i64 a,.int .i64 b] 0).run Tryz.prog w= .ok (.int .i64 a) w:=by kernel_rfl
theorem Wq(w:World)(a b:Int):(part 3 #[.int .i64 a,.int .i64 b] 1).run Tryz.prog w= .ok (.int .i64 b) w:=by kernel_rfl
theorem LY(w:World)(d:Nat)(a b:Int):(Op.equalIn (d+1+1) 42 (.agg #[.int .i64 a,.int .i64 b]) (.agg #[.int .i64 a,.int .i64 b])).run Tryz.prog w= .ok true w:=by
 rw[Op.equalIn]
 simp only[Sem.run_bind,run_underlying Tryz.underlying42,Result.andThen_ok,SQ]
 rw[Std.Legacy.Range.forIn_eq_forIn_range']
 simp[List.range',Wr,Wq,run_equalIn_int,Tryz.underlying3]
theorem LZ(w:World)(a b:Int):(binOp .eql 42 (.agg #[.int .i64 a,.int .i64 b]) (.agg #[.int .i64 a,.int .i64 b])).run Tryz.prog w= .ok (.bool true) w:=by
 rw[run_eql_struct,show(10000:Nat)=9998+1+1 from rfl,LY]
 rfl
end Go.Proofs.YtmnbheplkidfaaaGreatDoor
namespace Go.Proofs.YtmnbheplkidfaaaGreatDoor
open Go.Lib (hid)
open Go.RowKit Go.Deep Go.Shelf
abbrev RS:=List Tk ⊕ (Int×Int)
def RS.is(all:List Tk)(a e p:Int):RS->Prop
 | .inl ts=>e=0/\∃n:Nat,a=n/\n<=all.length/\all.drop n=ts
 | .inr (er,pos)=>e=er/\p=pos/\er≠0
def RdRow(R:Nat)(la:Option Addr)(all:List Tk)(w:World):Prop:=∀j x,all[j]? =some x->x.t.size<=maxLen/\∃g o,la=some ⟨g,o,none⟩/\g<w.heap.size/\g≠R/\w.cell? ⟨g,o+j*4,none⟩=some (.int .i64 x.k)/\w.cell? ⟨g,o+j*4+1,none⟩=some (.string x.t)/\w.cell? ⟨g,o+j*4+2,none⟩=some (.int .i64 x.v)/\w.cell? ⟨g,o+j*4+3,none⟩=some (.int .i64 x.a)
def RdIs(R:Nat)(la:Option Addr)(all:List Tk)(E:Int)(st:RS)(w:World):Prop:=
 ∃(cap:Nat) (a p e:Int),Blk w R #[.slice la all.length cap,.int .i64 a,.int .i64 E,.int .i64 e,.int .i64 p] 74/\all.length<=1000000/\RdRow R la all w/\st.is all a e p
section
variable {R:Nat} {la:Option Addr} {all:List Tk} {E:Int} {w w':World}
theorem RdRow.to(h:RdRow R la all w)(k:Below w.heap.size w w'):RdRow R la all w':=fun j x hj=>by
 obtain⟨h0,g,o,h1,h2,h3,e0,e1,e2,e3⟩:=h j x hj
 exact⟨h0,g,o,h1,lL h2 k.size,h3,(k.cell (p:=⟨g,_,none⟩) h2).trans e0,(k.cell (p:=⟨g,_,none⟩) h2).trans e1,(k.cell (p:=⟨g,_,none⟩) h2).trans e2,(k.cell (p:=⟨g,_,none⟩) h2).trans e3⟩
theorem RdRow.but(h:RdRow R la all w)(k:But R w w'):RdRow R la all w':=fun j x hj=>by
 obtain⟨h0,g,o,h1,h2,h3,e0,e1,e2,e3⟩:=h j x hj
 exact⟨h0,g,o,h1,lL h2 k.size,h3,(k.cell (p:=⟨g,_,none⟩) h2 h3).trans e0,(k.cell (p:=⟨g,_,none⟩) h2 h3).trans e1,(k.cell (p:=⟨g,_,none⟩) h2 h3).trans e2,(k.cell (p:=⟨g,_,none⟩) h2 h3).trans e3⟩
theorem RdIs.to{st:RS}(h:RdIs R la all E st w)(k:Below w.heap.size w w'):RdIs R la all E st w':=by
 obtain⟨cap,a,p,e,h1,h2,h3,h4⟩:=h
 exact⟨cap,a,p,e,(k.block R (gl h1)).trans h1,h2,h3.to k,h4⟩
theorem RdIs.lt{st:RS}(h:RdIs R la all E st w):R<w.heap.size:=by
 obtain⟨cap,a,p,e,h1,_⟩:=h
 exact(gl h1)
end
def Qi:RS->ByteArray
 | .inl (x::_)=>x.t
 |_=>⟨#[]⟩
def Nf:RS->Bool
 | .inl (x::_)=>x.k==2
 |_=>false
def XD(E err:Int):RS->RS
 | .inl ts=> .inr (err,posE E ts)
 | .inr z=> .inr z
theorem c5{w:World}{X:Nat}{T:TypeId}{a b c d e:Value}(h:w.heap[X]? =some (.cells #[a,b,c,d,e] T (0,0))):(w.cell? ⟨X,0,none⟩=some a/\w.cell? ⟨X,1,none⟩=some b/\w.cell? ⟨X,2,none⟩=some c/\w.cell? ⟨X,3,none⟩=some d/\w.cell? ⟨X,4,none⟩=some e)/\w.frozen? ⟨X,0,none⟩=false/\w.frozen? ⟨X,1,none⟩=false/\w.frozen? ⟨X,2,none⟩=false/\w.frozen? ⟨X,3,none⟩=false/\w.frozen? ⟨X,4,none⟩=false:=by
 refine⟨⟨?_,?_,?_,?_,?_⟩,Qc h 0,Qc h 1,Qc h 2,Qc h 3,Qc h 4⟩ <;> simp[World.cell?,h]
theorem Zc{α:Type}{l:List α}{n:Nat}{x:α}{r:List α}(h:l.drop n=x::r):n<l.length/\l[n]? =some x/\l.drop (n+1)=r:=by
 have h1:n<l.length:=by
  rcases Nat.lt_or_ge n l.length with h'|h'
  ·exact h'
  ·rw[List.drop_eq_nil_of_le h'] at h;cases h
 have h2:=List.drop_eq_getElem_cons h1
 rw[h2] at h
 injection h with ha hb
 exact⟨h1,by rw[List.getElem?_eq_getElem h1,ha],hb⟩
theorem Vp{α:Type}{l:List α}{n:Nat}(h:l.drop n=[])(hn:n<=l.length):n=l.length:=by
 have:=congrArg List.length h
 rw[List.length_drop,List.length_nil] at this
 omega
theorem Qw(R:Nat)(la:Option Addr)(all:List Tk)(E:Int)(st:RS)(w:World)(h:RdIs R la all E st w):
 Calls Tryz.prog 58 #[.pointer (some ⟨R,0,none⟩)] w fun e w'=>e= .returned (.string (Qi st))/\Below w.heap.size w w':=by
 obtain⟨cap,a,p,e,h1,h2,h3,h4⟩:=h
 obtain⟨⟨q0,q1,q2,q3,q4⟩,z0,z1,z2,z3,z4⟩:=c5 h1
 obtain⟨ln,hln⟩:∃ln,all.length=ln:=⟨_,rfl⟩
 rw[hln] at q0 h1 h2
 have HLN:=hid hln
 have HX:=hid h1
 have HR:=hid h3
 have HL:=hid h2
 clear h1
 match st with
 | .inr (er,pos)=>
  obtain⟨rfl,rfl,hne⟩:=h4
  have hn1:(e != 0)=true:=by simpa using hne
  have hn2:(e==0)=false:=by simpa using hne
  clear h3
  go_enter Tryz.func58,Tryz.ntmps58
  go_upto_region 1 with fail
  go_quiet (fail)
  go_wp2_with fail
  go_ret
  exact⟨rfl,below_drewN bR _⟩
 | .inl []=>
  obtain⟨rfl,n,rfl,hn,hd⟩:=h4
  have hnn:=Vp hd hn
  rw[hln] at hnn
  subst hnn
  have hg:decide ((n:Int)<=(n:Int))=true:=by simp
  have hg2:decide ((n:Int)<(n:Int))=false:=by simp
  have HD:=hid hd
  have HN:=hid hn
  clear h3 hd hn hln
  go_enter Tryz.func58,Tryz.ntmps58
  go_upto_region 1 with fail
  go_quiet (fail)
  go_wp2_with fail
  go_ret
  exact⟨rfl,below_drewN bR _⟩
 | .inl (x::r)=>
  obtain⟨rfl,n,rfl,hn,hd⟩:=h4
  obtain⟨hlt,hx,hdr⟩:=Zc hd
  rw[hln] at hlt
  obtain⟨hz,g,o,hla,hgl,hgR,e0,e1,e2,e3⟩:=h3 n x hx
  subst hla
  have hg:decide ((ln:Int)<=(n:Int))=false:=by simp;omega
  have hg1:decide ((n:Int)<(ln:Int))=true:=by simp;omega
  have hg2:decide ((0:Int)<=(n:Int))=true:=by simp
  have HD:=hid hd
  have HDR:=hid hdr
  have HN:=hid hn
  have HG:=hid (And.intro hgl hgR)
  clear h3 hd hn hx hgl hgR hdr hln
  go_enter Tryz.func58,Tryz.ntmps58
  go_upto_region 1 with fail
  go_quiet (fail)
  go_upto_region 3 with fail
  go_quiet (fail)
  go_wp2_with fail
  go_ret
  exact⟨rfl,below_drewN (below_drewN bR _) _⟩
theorem Gb(R:Nat)(la:Option Addr)(all:List Tk)(E:Int)(st:RS)(w:World)(h:RdIs R la all E st w):
 Calls Tryz.prog 143 #[.pointer (some ⟨R,0,none⟩)] w fun e w'=>e= .returned (.bool (Nf st))/\∃m,w'=w.drewN m:=by
 obtain⟨cap,a,p,e,h1,h2,h3,h4⟩:=h
 obtain⟨⟨q0,q1,q2,q3,q4⟩,z0,z1,z2,z3,z4⟩:=c5 h1
 obtain⟨ln,hln⟩:∃ln,all.length=ln:=⟨_,rfl⟩
 rw[hln] at q0 h1 h2
 have HLN:=hid hln
 have HX:=hid h1
 have HR:=hid h3
 have HL:=hid h2
 clear h1
 match st with
 | .inr (er,pos)=>
  obtain⟨rfl,rfl,hne⟩:=h4
  have hn1:(e != 0)=true:=by simpa using hne
  have hn2:(e==0)=false:=by simpa using hne
  clear h3
  go_enter Tryz.func143,Tryz.ntmps143
  go_upto_region 1 with fail
  go_quiet (fail)
  go_wp2_with fail
  go_ret
  exact⟨rfl,_,rfl⟩
 | .inl []=>
  obtain⟨rfl,n,rfl,hn,hd⟩:=h4
  have hnn:=Vp hd hn
  rw[hln] at hnn
  subst hnn
  have hg:decide ((n:Int)<=(n:Int))=true:=by simp
  have hg2:decide ((n:Int)<(n:Int))=false:=by simp
  have HD:=hid hd
  have HN:=hid hn
  clear h3 hd hn hln
  go_enter Tryz.func143,Tryz.ntmps143
  go_upto_region 1 with fail
  go_quiet (fail)
  go_wp2_with fail
  go_ret
  exact⟨rfl,_,rfl⟩
 | .inl (x::r)=>
  obtain⟨rfl,n,rfl,hn,hd⟩:=h4
  obtain⟨hlt,hx,hdr⟩:=Zc hd
  rw[hln] at hlt
  obtain⟨hz,g,o,hla,hgl,hgR,e0,e1,e2,e3⟩:=h3 n x hx
  subst hla
  have hg:decide ((ln:Int)<=(n:Int))=false:=by simp;omega
  have hg1:decide ((n:Int)<(ln:Int))=true:=by simp;omega
  have hg2:decide ((0:Int)<=(n:Int))=true:=by simp
  have HD:=hid hd
  have HDR:=hid hdr
  have HN:=hid hn
  have HG:=hid (And.intro hgl hgR)
  clear h3 hd hn hx hgl hgR hdr hln
  go_enter Tryz.func143,Tryz.ntmps143
  go_upto_region 1 with fail
  go_quiet (fail)
  go_wp2_with fail
  go_ret
  exact⟨rfl,_,rfl⟩
theorem ZG(R:Nat)(la:Option Addr)(all:List Tk)(E:Int)(st:RS)(err:Int)(herr:err≠0)(w:World)(h:RdIs R la all E st w):
 Calls Tryz.prog 61 #[.pointer (some ⟨R,0,none⟩),.int .i64 err] w fun e w'=>e= .returned (.tuple #[])/\RdIs R la all E (XD E err st) w'/\But R w w':=by
 obtain⟨cap,a,p,e,h1,h2,h3,h4⟩:=h
 obtain⟨⟨q0,q1,q2,q3,q4⟩,z0,z1,z2,z3,z4⟩:=c5 h1
 obtain⟨ln,hln⟩:∃ln,all.length=ln:=⟨_,rfl⟩
 rw[hln] at q0 h1 h2
 have HLN:=hid hln
 have HX:=hid h1
 have HR:=hid h3
 have HL:=hid h2
 clear h1
 match st with
 | .inr (er,pos)=>
  obtain⟨rfl,rfl,hne⟩:=h4
  have hn1:(e != 0)=true:=by simpa using hne
  have hn2:(e==0)=false:=by simpa using hne
  clear h3
  go_enter Tryz.func61,Tryz.ntmps61
  go_wp2_with fail
  refine bodyPost_ret (v:= .tuple #[]) (by simp[results,Tryz.results61,go_sem]) rfl ?_
  exact⟨rfl,⟨cap,a,p,e,by rw[HLN.out];exact HX.out,by rw[HLN.out];exact HL.out,HR.out,rfl,rfl,hne⟩,But.refl _ _⟩
 | .inl []=>
  obtain⟨rfl,n,rfl,hn,hd⟩:=h4
  have hnn:=Vp hd hn
  rw[hln] at hnn
  subst hnn
  have hg:decide ((n:Int)<=(n:Int))=true:=by simp
  have hg2:decide ((n:Int)<(n:Int))=false:=by simp
  have HD:=hid hd
  have HN:=hid hn
  clear h3 hd hn hln
  go_enter Tryz.func61,Tryz.ntmps61
  go_upto_region 3 with fail
  go_quiet (fail)
  go_wp2_with fail
  go_end0
  exact⟨rfl,⟨cap,n,E,err,by rw[HLN.out];exact Qd (Qd HX.out 3 _) 4 _,by rw[HLN.out];exact HL.out,HR.out.but ((((But.refl R w).set 3 _).set 4 _).to (below_drewN bR _)),rfl,rfl,herr⟩,(((But.refl R w).set 3 _).set 4 _).to (below_drewN bR _)⟩
 | .inl (x::r)=>
  obtain⟨rfl,n,rfl,hn,hd⟩:=h4
  obtain⟨hlt,hx,hdr⟩:=Zc hd
  rw[hln] at hlt
  obtain⟨hz,g,o,hla,hgl,hgR,e0,e1,e2,e3⟩:=h3 n x hx
  subst hla
  have hg:decide ((ln:Int)<=(n:Int))=false:=by simp;omega
  have hg1:decide ((n:Int)<(ln:Int))=true:=by simp;omega
  have hg2:decide ((0:Int)<=(n:Int))=true:=by simp
  have HD:=hid hd
  have HDR:=hid hdr
  have HN:=hid hn
  have HG:=hid (And.intro hgl hgR)
  clear h3 hd hn hx hgl hgR hdr hln
  go_enter Tryz.func61,Tryz.ntmps61
  go_upto_region 3 with fail
  go_quiet (fail)
  go_upto_region 4 with fail
  obtain⟨W2,hW2⟩:∃W2,(((w.setCell ⟨R,3,none⟩ (.int .i64 err)).setCell ⟨R,4,none⟩ (.int .i64 E)).drewN nq)=W2:=⟨_,rfl⟩
  have hb:But R w W2:=by rw[<-hW2];exact(((But.refl R w).set 3 _).set 4 _).to (below_drewN bR _)
  have hx2:W2.heap[R]? =some (.cells #[.slice (some ⟨g,o,none⟩) ln cap,.int .i64 n,.int .i64 E,.int .i64 err,.int .i64 E] 74 (0,0)):=by rw[<-hW2];exact Qd (Qd HX.out 3 _) 4 _
  rw[hW2]
  have HB:=hid hb
  have HX2:=hid hx2
  replace e3:=(hb.cell (p:=⟨g,_,none⟩) HG.out.1 HG.out.2).trans e3
  clear hW2 q0 q1 q2 q3 q4 z0 z1 z2 z3 z4 e0 e1 e2
  obtain⟨⟨q0,q1,q2,q3,q4⟩,z0,z1,z2,z3,z4⟩:=c5 hx2
  clear hb hx2
  go_region
  go_wp2_with fail
  go_end0
  exact⟨rfl,⟨cap,n,x.a,err,by rw[HLN.out];exact Qd HX2.out 4 _,by rw[HLN.out];exact HL.out,HR.out.but ((HB.out.set 4 _).to (below_drewN bR 1)),rfl,rfl,herr⟩,(HB.out.set 4 _).to (below_drewN bR 1)⟩
end Go.Proofs.YtmnbheplkidfaaaGreatDoor
namespace Go.Proofs.YtmnbheplkidfaaaGreatDoor
open Go.Lib (hid)
open Go.RowKit Go.Deep Go.Shelf
def Qa{α:Type}(E:Int)(F:List Tk->PR α):RS->RS
 | .inl ts=>match F ts with
  | .ok _ r=> .inl r
  | .bad e r=> .inr (e,posE E r)
 | .inr z=> .inr z
def Qj{α:Type}(F:List Tk->PR α):RS->Option α
 | .inl ts=>match F ts with
  | .ok x _=>some x
  | .bad _ _=>none
 | .inr _=>none
theorem QM{α:Type}(E:Int){F:List Tk->PR α}{ts:List Tk}{x:α}{r:List Tk}(h:F ts= .ok x r):Qa E F (.inl ts)= .inl r:=by unfold Qa;dsimp only;rw[h]
theorem QE{α:Type}(E:Int){F:List Tk->PR α}{ts:List Tk}{e:Int}{r:List Tk}(h:F ts= .bad e r):Qa E F (.inl ts)= .inr (e,posE E r):=by unfold Qa;dsimp only;rw[h]
theorem JP{α:Type}{F:List Tk->PR α}{ts:List Tk}{x:α}{r:List Tk}(h:F ts= .ok x r):Qj F (.inl ts)=some x:=by unfold Qj;dsimp only;rw[h]
theorem JM{α:Type}{F:List Tk->PR α}{ts:List Tk}{e:Int}{r:List Tk}(h:F ts= .bad e r):Qj F (.inl ts)=none:=by unfold Qj;dsimp only;rw[h]
def Red{α:Type}(R:Nat)(la:Option Addr)(all:List Tk)(E:Int)(w:World)(F:List Tk->PR α)(st:RS)(G:World->α->Value->Prop)(e:Ending)(w':World):Prop:=
 (∃v x,e= .returned v/\G w' x v/\∀y,Qj F st=some y->x=y)/\RdIs R la all E (Qa E F st) w'/\But R w w'
theorem RdIs.txt{R:Nat}{la:Option Addr}{all:List Tk}{E:Int}{st:RS}{w:World}(h:RdIs R la all E st w):(Qi st).size<=maxLen:=by
 obtain⟨cap,a,p,e,h1,h2,h3,h4⟩:=h
 match st with
 | .inr _=>exact Nat.zero_le _
 | .inl []=>exact Nat.zero_le _
 | .inl (x::r)=>
  obtain⟨rfl,n,rfl,hn,hd⟩:=h4
  exact(h3 n x (Zc hd).2.1).1
theorem MB{R:Nat}{la:Option Addr}{all:List Tk}{E:Int}{w w':World}{cap n:Nat}{p:Int}{r:List Tk}(hX:w'.heap[R]? =some (.cells #[.slice la all.length cap,.int .i64 (n:Int),.int .i64 E,.int .i64 0,.int .i64 p] 74 (0,0)))(hl:all.length<=1000000)(hR:RdRow R la all w)(hb:But R w w')(hn:n<all.length)(hr:all.drop (n+1)=r):
 RdIs R la all E (.inl r) (w'.setCell ⟨R,1,none⟩ (.int .i64 ((n:Int)+1)))/\But R w (w'.setCell ⟨R,1,none⟩ (.int .i64 ((n:Int)+1))):=
 ⟨⟨cap,(n:Int)+1,p,0,Qd hX 1 _,hl,hR.but (hb.set 1 _),rfl,n+1,by simp,hn,hr⟩,hb.set 1 _⟩
theorem QD(R:Nat)(la:Option Addr)(all:List Tk)(E:Int)(s:ByteArray)(hs:((⟨#[]⟩:ByteArray).toList==s.toList)=false)(st:RS)(w:World)(h:RdIs R la all E st w):
 Calls Tryz.prog 59 #[.pointer (some ⟨R,0,none⟩),.string s] w fun e w'=>e= .returned (.tuple #[])/\RdIs R la all E (Qa E (need s) st) w'/\But R w w':=by
 have HT:=hid (Qw R la all E st w h)
 have HH:=hid h
 obtain⟨cap,a,p,e,h1,h2,h3,h4⟩:=h
 obtain⟨⟨q0,q1,q2,q3,q4⟩,z0,z1,z2,z3,z4⟩:=c5 h1
 obtain⟨ln,hln⟩:∃ln,all.length=ln:=⟨_,rfl⟩
 rw[hln] at q0 h1 h2
 have HLN:=hid hln
 have HX:=hid h1
 have HR:=hid h3
 have HL:=hid h2
 clear h1
 match st with
 | .inr (er,pos)=>
  obtain⟨rfl,rfl,hne⟩:=h4
  have hn1:(e != 0)=true:=by simpa using hne
  have hn2:(e==0)=false:=by simpa using hne
  clear h3
  go_enter Tryz.func59,Tryz.ntmps59
  go_wp2_with fail
  refine bodyPost_ret (v:= .tuple #[]) (by simp[results,Tryz.results59,go_sem]) rfl ?_
  exact⟨rfl,⟨cap,a,p,e,by rw[HLN.out];exact HX.out,by rw[HLN.out];exact HL.out,HR.out,rfl,rfl,hne⟩,But.refl _ _⟩
 | .inl []=>
  obtain⟨rfl,n,rfl,hn,hd⟩:=h4
  have hnn:=Vp hd hn
  rw[hln] at hnn
  subst hnn
  have hg:decide ((n:Int)<=(n:Int))=true:=by simp
  have hg2:decide ((n:Int)<(n:Int))=false:=by simp
  have HD:=hid hd
  have HN:=hid hn
  clear h3 hd hn hln
  have ht:Qi (.inl [])=⟨#[]⟩:=rfl
  rw[ht] at HT
  have hs2:s.toList.isEmpty=false:=by
   cases h:s.toList with
   |nil=>rw[h] at hs;exact absurd hs (by decide+kernel)
   |cons _ _=>rfl
  go_enter Tryz.func59,Tryz.ntmps59
  go_wp2_with (first|(go_at_call 58;refine HT.out.mono ?_;rintro en w1⟨rfl,hb1⟩;have HB1:=hid hb1;have HP1:=hid (HH.out.to HB1.out);clear hb1)|(go_at_call 61;refine(ZG R _ all E _ 1 (by decide) _ HP1.out).mono ?_;rintro en w8⟨rfl,hp8,hb8⟩;have HP8:=hid hp8;have HB8:=hid hb8;clear hp8 hb8))
  first|go_end0|refine bodyPost_ret (v:= .tuple #[]) (by simp[results,Tryz.results59,go_sem]) rfl ?_
  exact⟨rfl,HP8.out,(But.of HB1.out).trans HB8.out⟩
 | .inl (x::r)=>
  obtain⟨rfl,n,rfl,hn,hd⟩:=h4
  obtain⟨hlt,hx,hdr⟩:=Zc hd
  rw[hln] at hlt
  obtain⟨hz,g,o,hla,hgl,hgR,e0,e1,e2,e3⟩:=h3 n x hx
  subst hla
  have hg:decide ((ln:Int)<=(n:Int))=false:=by simp;omega
  have hg1:decide ((n:Int)<(ln:Int))=true:=by simp;omega
  have hg2:decide ((0:Int)<=(n:Int))=true:=by simp
  have HD:=hid hd
  have HDR:=hid hdr
  have HN:=hid hn
  have HG:=hid (And.intro hgl hgR)
  clear h3 hd hn hx hgl hgR hdr hln
  replace HT:Hid (Calls Tryz.prog 58 #[.pointer (some ⟨R,0,none⟩)] w fun e w'=>e= .returned (.string x.t)/\Below w.heap.size w w'):=HT
  cases hh:(x.t.toList==s.toList) with
  |false=>
   rw[QE E (show need s (x::r)= .bad 1 (x::r) from if_neg (by rw[show hd s (x::r)=false from hh];simp))]
   have hh2:(x.t.toList != s.toList)=true:=by rw[bne,hh];rfl
   go_enter Tryz.func59,Tryz.ntmps59
   go_wp2_with (first|(go_at_call 58;refine HT.out.mono ?_;rintro en w1⟨rfl,hb1⟩;have HB1:=hid hb1;have HP1:=hid (HH.out.to HB1.out);clear hb1)|(go_at_call 61;refine(ZG R _ all E _ 1 (by decide) _ HP1.out).mono ?_;rintro en w8⟨rfl,hp8,hb8⟩;have HP8:=hid hp8;have HB8:=hid hb8;clear hp8 hb8))
   first|go_end0|refine bodyPost_ret (v:= .tuple #[]) (by simp[results,Tryz.results59,go_sem]) rfl ?_
   exact⟨rfl,HP8.out,(But.of HB1.out).trans HB8.out⟩
  |true=>
   rw[QM E (show need s (x::r)= .ok () r from if_pos hh)]
   have hh2:(x.t.toList != s.toList)=false:=by rw[bne,hh];rfl
   go_enter Tryz.func59,Tryz.ntmps59
   go_wp2_with ((go_at_call 58;refine HT.out.mono ?_;rintro en w1⟨rfl,hb1⟩;have HB1:=hid hb1;have HP1:=hid (HH.out.to HB1.out);have hw1:=(HB1.out.block R (gl HX.out)).trans HX.out;have HX1:=hid hw1;obtain⟨⟨q0,q1,q2,q3,q4⟩,z0,z1,z2,z3,z4⟩:=c5 hw1;clear hw1;clear hb1))
   go_end0
   exact⟨rfl,by rw[<-HLN.out] at HX1 hlt HL;exact MB HX1.out HL.out HR.out (But.of HB1.out) hlt HDR.out⟩
theorem LP{st:RS}(E:Int)(h:Qb (Qi st)=false):Qa E (Qk Qb) st=XD E 1 st/\Qj (Qk Qb) st=none:=by
 match st with
 | .inr z=>exact⟨rfl,rfl⟩
 | .inl []=>exact⟨rfl,rfl⟩
 | .inl (x::r)=>
  have e:Qk Qb (x::r)= .bad 1 (x::r):=by rw[Qk,if_neg (by rw[show Qb x.t=false from h];simp)]
  exact⟨QE E e,JM e⟩
theorem Sx{st:RS}(E:Int)(h:Qb (Qi st)=true):∃x r,st= .inl (x::r)/\Qa E (Qk Qb) st= .inl r/\Qj (Qk Qb) st=some x.t:=by
 have h0:Qb ⟨#[]⟩=false:=by decide+kernel
 match st with
 | .inr z=>rw[show Qi (.inr z)=⟨#[]⟩ from rfl,h0] at h;cases h
 | .inl []=>rw[show Qi (.inl [])=⟨#[]⟩ from rfl,h0] at h;cases h
 | .inl (x::r)=>
  have e:Qk Qb (x::r)= .ok x.t r:=by rw[Qk,if_pos (show Qb x.t=true from h)]
  exact⟨x,r,rfl,QM E e,JP e⟩
theorem Zv(R:Nat)(la:Option Addr)(all:List Tk)(E:Int)(st:RS)(w:World)(h:RdIs R la all E st w):
 Calls Tryz.prog 60 #[.pointer (some ⟨R,0,none⟩)] w (Red R la all E w (Qk Qb) st GStr):=by
 have HT:=hid (Qw R la all E st w h)
 have HH:=hid h
 have hz:=h.txt
 have HNM:=hid (Ta (Qi st) hz)
 cases hb:Qb (Qi st) with
 |false=>
  rw[hb] at HNM
  obtain⟨hs1,hs2⟩:=LP E hb
  unfold Red
  rw[hs1,hs2]
  obtain⟨t,ht⟩:∃t,Qi st=t:=⟨_,rfl⟩
  rw[ht] at HT HNM hz
  clear h hb hs1 hs2 ht
  go_enter Tryz.func60,Tryz.ntmps60
  go_wp2_with (first|(go_at_call 58;refine HT.out.mono ?_;rintro en w1⟨rfl,hb1⟩;have HB1:=hid hb1;have HP1:=hid (HH.out.to HB1.out);clear hb1)|(go_at_call 87;refine(HNM.out _).mono ?_;rintro en w2⟨rfl,hb2⟩;have HB2:=hid hb2;have HP2:=hid (HP1.out.to HB2.out);clear hb2)|(go_at_call 61;refine(ZG R _ all E _ 1 (by decide) _ HP2.out).mono ?_;rintro en w8⟨rfl,hp8,hb8⟩;have HP8:=hid hp8;have HB8:=hid hb8;clear hp8 hb8))
  go_ret
  exact⟨⟨_,⟨#[]⟩,rfl,⟨rfl,Nat.zero_le _⟩,fun _ h=>by cases h⟩,HP8.out,((But.of HB1.out).to HB2.out).trans HB8.out⟩
 |true=>
  rw[hb] at HNM
  obtain⟨x,r,rfl,hs1,hs2⟩:=Sx E hb
  unfold Red
  rw[hs1,hs2]
  replace HT:Hid (Calls Tryz.prog 58 #[.pointer (some ⟨R,0,none⟩)] w fun e w'=>e= .returned (.string x.t)/\Below w.heap.size w w'):=HT
  replace HNM:Hid (∀w:World,Calls Tryz.prog 87 #[.string x.t] w fun e w'=>e= .returned (.bool true)/\Below w.heap.size w w'):=HNM
  have HZ:Hid (x.t.size<=maxLen):=hid hz
  clear hz
  clear hb hs1 hs2
  obtain⟨cap,a,p,e,h1,h2,h3,h4⟩:=h
  obtain⟨⟨q0,q1,q2,q3,q4⟩,z0,z1,z2,z3,z4⟩:=c5 h1
  obtain⟨ln,hln⟩:∃ln,all.length=ln:=⟨_,rfl⟩
  rw[hln] at q0 h1 h2
  have HLN:=hid hln
  have HX:=hid h1
  have HR:=hid h3
  have HL:=hid h2
  clear h1
  obtain⟨rfl,n,rfl,hn,hd⟩:=h4
  obtain⟨hlt,hx,hdr⟩:=Zc hd
  rw[hln] at hlt
  obtain⟨hz,g,o,hla,hgl,hgR,e0,e1,e2,e3⟩:=h3 n x hx
  subst hla
  have hg:decide ((ln:Int)<=(n:Int))=false:=by simp;omega
  have hg1:decide ((n:Int)<(ln:Int))=true:=by simp;omega
  have hg2:decide ((0:Int)<=(n:Int))=true:=by simp
  have HD:=hid hd
  have HDR:=hid hdr
  have HN:=hid hn
  have HG:=hid (And.intro hgl hgR)
  clear h3 hd hn hx hgl hgR hdr hln
  go_enter Tryz.func60,Tryz.ntmps60
  go_wp2_with (first|(go_at_call 58;refine HT.out.mono ?_;rintro en w1⟨rfl,hb1⟩;have HB1:=hid hb1;have HP1:=hid (HH.out.to HB1.out);clear hb1)|(go_at_call 87;refine(HNM.out _).mono ?_;rintro en w2⟨rfl,hb2⟩;have HB2:=hid hb2;have HP2:=hid (HP1.out.to HB2.out);have hb12:=HB1.out.trans (HB2.out.mono HB1.out.size);have HB12:=hid hb12;have hw1:=(hb12.block R (gl HX.out)).trans HX.out;have HX1:=hid hw1;obtain⟨⟨q0,q1,q2,q3,q4⟩,z0,z1,z2,z3,z4⟩:=c5 hw1;clear hw1 hb12;clear hb2))
  go_ret
  exact⟨⟨_,x.t,rfl,⟨rfl,HZ.out⟩,fun _ h=>by injection h⟩,by rw[<-HLN.out] at HX1 hlt HL;exact MB HX1.out HL.out HR.out (But.of HB12.out) hlt HDR.out⟩
theorem Eu{st:RS}(E:Int)(h:Nf st=false):Qa E QO st=XD E 1 st/\Qj QO st=none:=by
 match st with
 | .inr z=>exact⟨rfl,rfl⟩
 | .inl []=>exact⟨rfl,rfl⟩
 | .inl (x::r)=>
  have e:QO (x::r)= .bad 1 (x::r):=by rw[QO,if_pos (.inl (by have:(x.k==2)=false:=h;simpa using this))]
  exact⟨QE E e,JM e⟩
theorem Ga{st:RS}(h:Nf st=true):∃x r,st= .inl (x::r)/\x.k=2:=by
 match st with
 | .inr z=>cases h
 | .inl []=>cases h
 | .inl (x::r)=>exact⟨x,r,rfl,by have:(x.k==2)=true:=h;simpa using this⟩
theorem Nx(R:Nat)(la:Option Addr)(all:List Tk)(E:Int)(st:RS)(w:World)(h:RdIs R la all E st w):
 Calls Tryz.prog 127 #[.pointer (some ⟨R,0,none⟩)] w (Red R la all E w QO st GInt):=by
 have HNUM:=hid (fun n=>Gb R la all E st (w.drewN n) (h.to (below_drewN (Below.refl _ w) n)))
 have HH:=hid h
 cases hb:Nf st with
 |false=>
  rw[hb] at HNUM
  obtain⟨hs1,hs2⟩:=Eu E hb
  unfold Red
  rw[hs1,hs2]
  clear h hb hs1 hs2
  go_enter Tryz.func127,Tryz.ntmps127
  go_upto_region 1 with fail
  go_quiet ((go_at_call 143;exact Calls.quiet_of (HNUM.out _)))
  have HPD:=hid (HH.out.to (below_drewN (Below.refl _ w) nq))
  go_wp2_with (go_at_call 61;refine(ZG R _ all E _ 1 (by decide) _ HPD.out).mono ?_;rintro en w8⟨rfl,hp8,hb8⟩;have HP8:=hid hp8;have HB8:=hid hb8;clear hp8 hb8)
  go_ret
  exact⟨⟨_,0,rfl,rfl,fun _ h=>by cases h⟩,HP8.out,((But.refl R w).to (below_drewN bR nq)).trans HB8.out⟩
 |true=>
  rw[hb] at HNUM
  obtain⟨x,r,rfl,hk⟩:=Ga hb
  clear hb
  obtain⟨cap,a,p,e,h1,h2,h3,h4⟩:=h
  obtain⟨⟨q0,q1,q2,q3,q4⟩,z0,z1,z2,z3,z4⟩:=c5 h1
  obtain⟨ln,hln⟩:∃ln,all.length=ln:=⟨_,rfl⟩
  rw[hln] at q0 h1 h2
  have HLN:=hid hln
  have HX:=hid h1
  have HR:=hid h3
  have HL:=hid h2
  clear h1
  obtain⟨rfl,n,rfl,hn,hd⟩:=h4
  obtain⟨hlt,hx,hdr⟩:=Zc hd
  rw[hln] at hlt
  obtain⟨hz,g,o,hla,hgl,hgR,e0,e1,e2,e3⟩:=h3 n x hx
  subst hla
  have hg:decide ((ln:Int)<=(n:Int))=false:=by simp;omega
  have hg1:decide ((n:Int)<(ln:Int))=true:=by simp;omega
  have hg2:decide ((0:Int)<=(n:Int))=true:=by simp
  have HD:=hid hd
  have HDR:=hid hdr
  have HN:=hid hn
  have HG:=hid (And.intro hgl hgR)
  clear h3 hd hn hx hgl hgR hdr hln
  have HPD0:=hid (fun nq=>HH.out.to (below_drewN (Below.refl _ w) nq))
  by_cases hv:x.v<0
  ·have e:QO (x::r)= .bad 1 (x::r):=by rw[QO,if_pos (.inr hv)]
   have hv1:decide (x.v<0)=true:=decide_eq_true hv
   unfold Red
   rw[QE E e,JM e]
   clear e hv hk
   go_enter Tryz.func127,Tryz.ntmps127
   go_upto_region 1 with fail
   go_quiet ((go_at_call 143;exact Calls.quiet_of (HNUM.out _)))
   have HPD:=hid (HPD0.out nq)
   go_wp2_with (go_at_call 61;refine(ZG R _ all E _ 1 (by decide) _ HPD.out).mono ?_;rintro en w8⟨rfl,hp8,hb8⟩;have HP8:=hid hp8;have HB8:=hid hb8;clear hp8 hb8)
   go_ret
   exact⟨⟨_,0,rfl,rfl,fun _ h=>by cases h⟩,HP8.out,((But.refl R w).to (below_drewN bR nq)).trans HB8.out⟩
  ·have hv1:decide (x.v<0)=false:=decide_eq_false hv
   by_cases hm:1000000<x.v
   ·have e:QO (x::r)= .bad 2 (x::r):=by rw[QO,if_neg (fun h=>h.elim (fun h=>h hk) (fun h=>hv h)),if_pos hm]
    have hm1:decide (1000000<x.v)=true:=decide_eq_true hm
    unfold Red
    rw[QE E e,JM e]
    clear e hv hk hm
    go_enter Tryz.func127,Tryz.ntmps127
    go_upto_region 1 with fail
    go_quiet ((go_at_call 143;exact Calls.quiet_of (HNUM.out _)))
    revert nq
    intro n1
    go_upto_region 4 with fail
    go_quiet (fail)
    have HPD:=hid (HPD0.out (n1+nq))
    go_wp2_with (go_at_call 61;refine(ZG R _ all E _ 2 (by decide) _ HPD.out).mono ?_;rintro en w8⟨rfl,hp8,hb8⟩;have HP8:=hid hp8;have HB8:=hid hb8;clear hp8 hb8)
    go_ret
    exact⟨⟨_,0,rfl,rfl,fun _ h=>by cases h⟩,HP8.out,((But.refl R w).to (below_drewN bR (n1+nq))).trans HB8.out⟩
   ·have e:QO (x::r)= .ok x.v r:=by rw[QO,if_neg (fun h=>h.elim (fun h=>h hk) (fun h=>hv h)),if_neg hm]
    have hm1:decide (1000000<x.v)=false:=decide_eq_false hm
    unfold Red
    rw[QM E e,JP e]
    clear e hv hk hm
    go_enter Tryz.func127,Tryz.ntmps127
    go_upto_region 1 with fail
    go_quiet ((go_at_call 143;exact Calls.quiet_of (HNUM.out _)))
    revert nq
    intro n1
    go_upto_region 4 with fail
    go_quiet (fail)
    go_upto_region 8 with fail
    have hlt2:=hlt
    rw[<-HLN.out] at hlt HX HL
    have hrd:=MB (w':=w.drewN (n1+nq)) HX.out HL.out HR.out ((But.refl R w).to (below_drewN bR (n1+nq))) hlt HDR.out
    have hx2:((w.drewN (n1+nq)).setCell ⟨R,1,none⟩ (.int .i64 ((n:Int)+1))).heap[R]? =some (.cells #[.slice (some ⟨g,o,none⟩) all.length cap,.int .i64 ((n:Int)+1),.int .i64 E,.int .i64 0,.int .i64 p] 74 (0,0)):=Qd (W:=w.drewN (n1+nq)) HX.out 1 _
    rw[HLN.out] at hx2
    obtain⟨W2,hW2⟩:∃W2,(w.drewN (n1+nq)).setCell ⟨R,1,none⟩ (.int .i64 ((n:Int)+1))=W2:=⟨_,rfl⟩
    rw[hW2] at hrd hx2 |-
    have HRD:=hid hrd
    replace e2:=(hrd.2.cell (p:=⟨g,_,none⟩) HG.out.1 HG.out.2).trans e2
    clear hW2 q0 q1 q2 q3 q4 z0 z1 z2 z3 z4 e0 e1 e3 hrd
    obtain⟨⟨q0,q1,q2,q3,q4⟩,z0,z1,z2,z3,z4⟩:=c5 hx2
    clear hx2
    have hsub:IntKind.i64.wrap (n:Int)=(n:Int):=by have:=HL.out;have:=HLN.out;rw[IntKind.wrap_i64];omega
    go_quiet (fail)
    go_wp2_with fail
    go_ret
    exact⟨⟨_,x.v,rfl,rfl,fun _ h=>by injection h⟩,HRD.out.1.to (below_drewN bR nq),HRD.out.2.to (below_drewN bR nq)⟩
theorem LD{st:RS}(E:Int)(h:Nf st=false):Qa E Zj st=st/\∀y,Qj Zj st=some y->(0:Int)=y:=by
 match st with
 | .inr z=>exact⟨rfl,fun _ h=>by cases h⟩
 | .inl []=>exact⟨rfl,fun _ h=>by injection h⟩
 | .inl (x::r)=>
  have e:Zj (x::r)= .ok 0 (x::r):=by rw[Zj,if_pos (by have:(x.k==2)=false:=h;simpa using this)]
  exact⟨QM E e,fun y h=>by rw[JP e] at h;injection h⟩
theorem Si{st:RS}(E:Int)(h:Nf st=true):Qa E Zj st=Qa E QO st/\Qj Zj st=Qj QO st:=by
 obtain⟨x,r,rfl,hk⟩:=Ga h
 have e:Zj (x::r)=QO (x::r):=by rw[Zj,if_neg (fun h=>h hk)]
 unfold Qa Qj
 dsimp only
 rw[e]
 exact⟨rfl,rfl⟩
theorem Mb(R:Nat)(la:Option Addr)(all:List Tk)(E:Int)(st:RS)(w:World)(h:RdIs R la all E st w):
 Calls Tryz.prog 128 #[.pointer (some ⟨R,0,none⟩)] w (Red R la all E w Zj st GInt):=by
 have HNUM:=hid (Gb R la all E st w h)
 have HH:=hid h
 have HSM:=hid (fun W h=>Nx R la all E st W h)
 unfold Red at HSM
 unfold Red
 cases hb:Nf st with
 |false=>
  rw[hb] at HNUM
  obtain⟨hs1,hs2⟩:=LD E hb
  rw[hs1]
  have HV:=hid hs2
  clear h hb hs1 hs2
  go_enter Tryz.func128,Tryz.ntmps128
  go_wp2_with (go_at_call 143;refine HNUM.out.mono ?_;rintro en w1⟨rfl,m,rfl⟩)
  go_ret
  exact⟨⟨_,0,rfl,rfl,HV.out⟩,HH.out.to (below_drewN bR m),(But.refl R w).to (below_drewN bR m)⟩
 |true=>
  rw[hb] at HNUM
  obtain⟨hs1,hs2⟩:=Si E hb
  rw[hs1,hs2]
  clear h hb hs1 hs2
  go_enter Tryz.func128,Tryz.ntmps128
  go_wp2_with (first|(go_at_call 143;refine HNUM.out.mono ?_;rintro en w1⟨rfl,m,rfl⟩)|(go_at_call 127;refine(HSM.out _ (HH.out.to (below_drewN bR m))).mono ?_;rintro en w8⟨⟨v,x,rfl,hg,hv⟩,hp8,hb8⟩;obtain rfl:=hg;have HV:=hid hv;have HP8:=hid hp8;have HB8:=hid hb8;clear hp8 hb8 hv))
  go_ret
  exact⟨⟨_,x,rfl,rfl,HV.out⟩,HP8.out,((But.refl R w).to (below_drewN bR m)).trans HB8.out⟩
end Go.Proofs.YtmnbheplkidfaaaGreatDoor
