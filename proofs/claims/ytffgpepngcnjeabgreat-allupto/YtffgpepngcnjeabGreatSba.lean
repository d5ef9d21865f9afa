import Derived.Test.YtffgpepngcnjeabGreatSao
import Derived.Test.YtffgpepngcnjeabGreatSaz
import Derived.Test.YtffgpepngcnjeabGreatSax
namespace Go.Proofs.YtffgpepngcnjeabGreat
set_option maxRecDepth 100000
set_option maxHeartbeats 4000000
section
open Go.RowKit

def Wide (hit:Nat->Bool) (g x:Nat):Prop:=∀ i,i<x->hit i=true->i+1+g<=x
theorem wgo_spec (hit:Nat->Bool) (g:Nat) (hg:g<=100):∀ (f i v:Nat),f+i=101->i<=v->v<=100->g<=v->(∀ j,j<i->hit j=true->min 100 (j+1+g)<=v)->(∀ x,g<=x->x<100->Wide hit g x->v<=x)->
 g<=wgo hit g f i v/\wgo hit g f i v<=100/\(wgo hit g f i v<100->Wide hit g (wgo hit g f i v))/\(∀ x,g<=x->x<100->Wide hit g x->wgo hit g f i v<=x):=by
 intro f
 induction f with
 |zero=>intro i v h1 h2 h3;omega
 |succ f ih=>
  intro i v h1 h2 h3 h4 h5 h6
  rw[wgo]
  by_cases hlt:i<v
  ·rw[if_pos hlt]
   cases hh:hit i
   ·rw[if_neg (by simp)]
    exact ih (i+1) v (by omega) (by omega) h3 h4 (fun j hj hj2=>by
     by_cases e:j=i
     ·subst e;rw[hh] at hj2;cases hj2
     ·exact h5 j (by omega) hj2) h6
   ·rw[if_pos rfl]
    have hv:v<=min 100 (i+1+g)\/min 100 (i+1+g)<v:=by omega
    refine ih (i+1) (min 100 (i+1+g)) (by omega) (by omega) (by omega) (by omega) (fun j hj hj2=>by omega) (fun x hx1 hx2 hx3=>?_)
    have:=h6 x hx1 hx2 hx3
    have:=hx3 i (by omega) hh
    omega
  ·rw[if_neg hlt]
   refine⟨h4,h3,fun hv i' hi' hh=>?_,h6⟩
   have:=h5 i' (by omega) hh
   omega
theorem wideB_iff (bs:List Bool) (g x:Nat):wideB bs g x=true↔Wide (fun i=>bs.getD i false) g x:=by
 unfold wideB Wide
 rw[List.all_eq_true]
 constructor
 ·intro h i hi hb
  have hb:bs.getD i false=true:=hb
  have:=h i (List.mem_range.2 hi)
  rw[hb] at this
  simp at this
  omega
 ·intro h i hi
  have hi:=List.mem_range.1 hi
  cases hb:bs.getD i false
  ·rfl
  ·have:=h i hi hb
   simp
   omega
theorem wfind_spec (bs:List Bool) (g:Nat):∀ (f x:Nat),f+x=100->(wfind bs g f x=100/\∀ y,x<=y->y<100->¬wideB bs g y=true)\/(x<=wfind bs g f x/\wfind bs g f x<100/\wideB bs g (wfind bs g f x)=true/\∀ y,x<=y->y<wfind bs g f x->¬wideB bs g y=true):=by
 intro f
 induction f with
 |zero=>intro x hx;left;exact⟨rfl,fun y h1 h2=>by omega⟩
 |succ f ih=>
  intro x hx
  rw[wfind]
  by_cases hw:wideB bs g x=true
  ·rw[if_pos hw]
   right
   exact⟨leR,by omega,hw,fun y h1 h2=>by omega⟩
  ·rw[if_neg hw]
   rcases ih (x+1) (by omega) with⟨h1,h2⟩|⟨h1,h2,h3,h4⟩
   ·left
    refine⟨h1,fun y hy1 hy2=>?_⟩
    by_cases e:y=x
    ·rw[e];exact hw
    ·exact h2 y (by omega) hy2
   ·right
    refine⟨by omega,h2,h3,fun y hy1 hy2=>?_⟩
    by_cases e:y=x
    ·rw[e];exact hw
    ·exact h4 y (by omega) hy2
theorem win_sync (xs:List Cel) (s:Int) (g:Nat) (br:Int) (hg:g<=20):winR (xs.map toR) s g br=winZ xs s g br:=by
 have hhit:∀ i,i<100->(hitsR (xs.map toR) (adrs s br 100)).getD i false=hitAt xs s br i:=by
  intro i hi
  unfold hitsR
  have e:((adrs s br 100).map (hitR (xs.map toR))).getD i false=hitR (xs.map toR) (Mk.adr s br i):=by
   simp[adrs,List.getD,hi]
  rw[e]
  unfold hitR hitAt paidTo
  rw[List.any_map]
  rfl
 have hwd:∀ x,x<=100->(wideB (hitsR (xs.map toR) (adrs s br 100)) g x=true↔Wide (hitAt xs s br) g x):=by
  intro x hx
  rw[wideB_iff]
  constructor
  ·intro h i hi hh
   exact h i hi (by show(hitsR (xs.map toR) (adrs s br 100)).getD i false=true;rw[hhit i (by omega)];exact hh)
  ·intro h i hi hh
   exact h i hi (by rw[<-hhit i (by omega)];exact hh)
 unfold winR winZ
 rw[show min 100 g=g by omega]
 obtain⟨w1,w2,w3,w4⟩:=wgo_spec (hitAt xs s br) g (by omega) 101 0 g rfl (by omega) (by omega) leR (fun j hj=>by omega) (fun x hx _ _=>hx)
 generalize wgo (hitAt xs s br) g 101 0 g=V at *
 rcases wfind_spec (hitsR (xs.map toR) (adrs s br 100)) g (100-g) g (by omega) with⟨h1,h2⟩|⟨h1,h2,h3,h4⟩
 ·rw[h1]
  by_cases e:V<100
  ·exact absurd ((hwd V w2).2 (w3 e)) (h2 V w1 e)
  ·omega
 ·generalize wfind (hitsR (xs.map toR) (adrs s br 100)) g (100-g) g=F at *
  have hv:V<=F:=w4 F h1 h2 ((hwd F (by omega)).1 h3)
  by_cases e:V<F
  ·exact absurd ((hwd V w2).2 (w3 (by omega))) (h4 V w1 e)
  ·omega
end
section
open Go.RowKit

variable {N X:NPr} {E DE:List (Nat×Value)} {G P D:Nat} {V:Value} {s:Int} {g:Nat} {v:Value} {ao:OAd} {c:Nat} {bls:List (List TxD)} {xs:List Cel}
theorem windows_any (ar:OAd) (cr:Nat) (ac:OAd) (cc:Nat) (w:World) (hg:GI N X E DE G P D V s g v ao c bls xs w) (hf:fitZ s (g:Int)=true) (ha:DAd w D s g ar cr ac cc):
 Calls Tryz.prog 72 #[.pointer (some ⟨G,0,none⟩)] w fun e w'=>e=.returned (.bool true)/\Below w.heap.size w w':=by
 obtain⟨hs,h1,h2⟩:=fitZ_yes hf
 have g0:=hg.g0
 have g1:=hg.g1
 obtain⟨av,cv,rfl,hat⟩:=hg.pu.at
 have HP:Hid (PurseRow w P s g (.slice av xs.length cv) (bls.length:Nat)):=pat_row hg.pu
 have HAT:=hiD hat
 have hlk:=hg.lk.here
 have h40:=hg.lk.len
 have HD:=hiD hg.dc
 have HA:=hiD ha
 have HGO:=hiD hg.lk.good
 have HW0:Hid (winR (cellsR bls) s g 0=winZ xs s g 0):=by show _=_;rw[<-hlk.1];exact win_sync xs s g 0 (by omega)
 have HW1:Hid (winR (cellsR bls) s g 1=winZ xs s g 1):=by show _=_;rw[<-hlk.1];exact win_sync xs s g 1 (by omega)
 have hxl:xs.length<=1000000:=by have:=hlk.2.2.2;omega
 have hGl:G<w.heap.size:=cell_lt g0
 have hg1:1<=g:=by omega
 have hg2:g<=20:=by omega
 clear hg hat hlk ha hf h1 h2
 go_enter Tryz.func72,Tryz.ntmps72
 go_wp2_with fail
 refine(pWindows_any P s g av xs.length cv (bls.length:Nat) xs _ hs hg1 hg2 HP HAT rfl hxl).mono ?_
 rintro e w1 ⟨rfl,hb1⟩
 have g1':=(hb1.cell (p:=⟨G,1,none⟩) hGl).trans g1
 have HD1:Hid (DCh N w1 D ao c bls):=HD.out.fr (Fr.of_below hb1 (fun _=>False)) (fun _ _ h=>h) (fun _ _ h=>h) (fun h=>h)
 have HA1:=hiD (HA.out.grown hb1)
 clear g0 g1 HP HAT HD HA
 go_wp2_with fail
 refine(rWindows_any N D ao c bls s g ar cr ac cc _ HD1 HGO h40 HA1 hg2).mono ?_
 rintro e w2 ⟨rfl,hb2⟩
 rw[HW0.out,HW1.out]
 have hb02:=below_blk hb1 hb2
 generalize winZ xs s g 0=a at *
 generalize winZ xs s g 1=b at *
 go_wp2
 go_ret
 exact⟨ret_bool (by simp),hb02⟩
theorem stepW_any (o:OpD) (ar:OAd) (cr:Nat) (ac:OAd) (cc:Nat) (w:World) (hk:o.kd=7) (hg:GI N X E DE G P D V s g v ao c bls xs w) (hf:fitZ s (g:Int)=true) (ha:DAd w D s g ar cr ac cc):
 Calls Tryz.prog 28 #[.pointer (some ⟨G,0,none⟩),o.val] w fun e w'=>e=.returned (.bool true)/\Below w.heap.size w w':=by
 obtain⟨kd,on,oa1,ob1,ab,m,d,bl,oa,om,od,ys⟩:=o
 simp only at hk
 subst hk
 have hb1:Below w.heap.size w (w.alloc (.cells #[.int .i64 7,.int .i64 on,.int .i64 oa1,.int .i64 ob1,.slice ab m d,.slice oa om od] 82)):=(Below.refl _ _).alloc leR _
 have HG1:=hiD (hg.grown hb1)
 have HA1:=hiD (ha.grown hb1)
 clear hg ha
 go_enter Tryz.func28,Tryz.ntmps28
 go_wp2_with fail
 refine(windows_any ar cr ac cc _ HG1 hf HA1).mono ?_
 rintro e w2 ⟨rfl,hb2⟩
 go_wp2
 go_ret
 exact⟨rfl,below_blk hb1 hb2⟩
structure AdX (X:NPr) (D:Nat) (ar ac:OAd):Prop where
 r:∀ a,ar=some a->X a.block/\a.block≠D
 c:∀ a,ac=some a->X a.block/\a.block≠D
def WInvG (s:Int) (g:Nat) (G B:Nat) (w:World):Prop:=
 ∃ (X:NPr) (D:Nat) (V v:Value) (ao:OAd) (c:Nat) (bls:List (List TxD)) (xs:List Cel) (ar:OAd) (cr:Nat) (ac:OAd) (cc:Nat),GI (fun k=>k<B) X exE (deE s (g:Int) (.slice ar 100 cr) (.slice ac 100 cc)) G B D V s g v ao c bls xs w/\AdX X D ar ac/\IntsAt w ar (adrs s 0 100)/\IntsAt w ac (adrs s 1 100)
theorem GI.dad {ar:OAd} {cr:Nat} {ac:OAd} {cc:Nat} {w:World} (h:GI N X E (deE s (g:Int) (.slice ar 100 cr) (.slice ac 100 cc)) G P D V s g v ao c bls xs w) (h0:IntsAt w ar (adrs s 0 100)) (h1:IntsAt w ac (adrs s 1 100)):DAd w D s g ar cr ac cc:=
 ⟨(h.de (1,.int .i64 (g:Int)) (by simp[deE])).2,(h.de (2,.slice ar 100 cr) (by simp[deE])).2,(h.de (3,.slice ac 100 cc) (by simp[deE])).2,h0,h1⟩
end
section
open Go.RowKit
variable {e k base g n Dr B q:Nat} {w w':World} {c y z x:CoinD} {F E:NPr} {vc vn:Value}
def iV (x:Int):List Value:=[.int .i64 x]
theorem iv1 (x:Int):(iV x).length=1:=rfl
theorem iv_one (x:Int):∀ u∈iV x,u.oneCell'=true:=by
 intro u hu
 simp[iV] at hu
 subst hu
 rfl
theorem cbv_one (x:CbD):∀ u∈x.v,u.oneCell'=true:=by
 intro u hu
 simp[CbD.v] at hu
 subst hu
 rfl
theorem info45:(Tryz.prog.info? 45).map (fun i=>(i.zero,i.size,i.bytes))=some (some (.slice none 0 0),1,24):=by kernel_rfl
theorem own_room {α:Type} {f:α->List Value} {c:Nat} {xs:List α} (h:OwnRec f e k w base (.slice (some ⟨g,0,none⟩) n c) xs):Room w g (c*k)/\n<=c:=by
 obtain⟨_,h|⟨g',cap,cur,e1,_,hg,hn,_,hs,_⟩⟩:=h
 ·obtain⟨h,_⟩:=h
  cases h
 ·injection e1 with e1 e2 e3
  injection e1 with e1
  injection e1 with e1
  subst e1
  subst e3
  refine⟨⟨fun j hj=>?_,fun j hj=>by simp[World.frozen?,hg]⟩,by omega⟩
  have hj':j<cur.size:=by omega
  exact⟨cur[j],by simp[World.cell?,hg,hj']⟩
structure DrI (w:World) (Dr B:Nat) (vc vn:Value) (q:Nat):Prop where
 n0:∃ k,w.cell? ⟨Dr,0,none⟩=some (.int .i64 k)
 f0:w.frozen? ⟨Dr,0,none⟩=false
 c5:w.cell? ⟨Dr,5,none⟩=some vc
 f5:w.frozen? ⟨Dr,5,none⟩=false
 c10:w.cell? ⟨Dr,10,none⟩=some vn
 f10:w.frozen? ⟨Dr,10,none⟩=false
 oc:∃ cs:List CbD,OwnRec CbD.v 45 1 w B vc cs/\cs.length<=q
 on:∃ ns:List Int,OwnRec iV 3 1 w B vn ns/\ns.length<=q
 ne:∀ k,vc.ownBlock=some k->vn.ownBlock≠some k
 lt:Dr<B
def drE (Dr:Nat) (vc vn:Value) (k:Nat):Prop:=k=Dr\/vc.ownBlock=some k\/vn.ownBlock=some k
theorem DrI.fr (hf:Fr F w w') (h:DrI w Dr B vc vn q) (he:∀ k,drE Dr vc vn k->¬F k):DrI w' Dr B vc vn q:=by
 have hD:=he Dr (Or.inl rfl)
 obtain⟨k,n0⟩:=h.n0
 obtain⟨cs,oc,lc⟩:=h.oc
 obtain⟨ns,on,ln⟩:=h.on
 have hl:Dr<w.heap.size:=cell_lt n0
 exact⟨⟨k,hf.cell n0 hD⟩,(hf.frozen hl hD).trans h.f0,hf.cell h.c5 hD,(hf.frozen hl hD).trans h.f5,hf.cell h.c10 hD,(hf.frozen hl hD).trans h.f10,⟨cs,hf.own oc (fun k hk=>he k (Or.inr (Or.inl hk))),lc⟩,⟨ns,hf.own on (fun k hk=>he k (Or.inr (Or.inr hk))),ln⟩,h.ne,h.lt⟩
theorem DrI.grown (h:DrI w Dr B vc vn q) (hb:Below w.heap.size w w'):DrI w' Dr B vc vn q:=h.fr (Fr.of_below hb (fun _=>False)) (fun _ _ h=>h)
theorem DrI.blk (h:DrI w Dr B vc vn q):∀ k,drE Dr vc vn k->k<w.heap.size:=by
 intro k hk
 obtain⟨cs,oc,_⟩:=h.oc
 obtain⟨ns,on,_⟩:=h.on
 obtain⟨z,n0⟩:=h.n0
 rcases hk with rfl|hk|hk
 ·exact cell_lt n0
 ·exact(oc.blk k hk).2
 ·exact(on.blk k hk).2
theorem own_cap {α:Type} {f:α->List Value} {c:Nat} {xs:List α} (h:OwnRec f e k w base (.slice (some ⟨g,0,none⟩) n c) xs):c<=9223372036854775807:=by
 obtain⟨_,h|⟨g',cap,cur,e1,_,hg,hn,hm,hs,_⟩⟩:=h
 ·obtain⟨h,_⟩:=h
  cases h
 ·injection e1 with e1 e2 e3
  subst e3
  unfold maxLen at hm
  omega
theorem Wrote.drew (h:Wrote E w w'):Wrote E w w'.drew:=⟨h.fr.drew,fun b n hr=>(h.room b n hr).drew⟩
def insL (c:CoinD):List CoinD->List CoinD
 |[]=>[c]
 |y::r=>if aheadZ c y=true then c::y::r else y::insL c r
theorem plGo_true (c:CoinD):∀ (l out:List CoinD),plGo c l true out=(out++l,true):=by
 intro l
 induction l with
 |nil=>intro out;simp[plGo]
 |cons x r ih=>intro out;rw[plGo,if_neg (by simp),ih];simp
theorem plGo_false (c:CoinD):∀ (l out:List CoinD),(if (plGo c l false out).2=false then(plGo c l false out).1++[c] else(plGo c l false out).1)=out++insL c l:=by
 intro l
 induction l with
 |nil=>intro out;simp[plGo,insL]
 |cons x r ih=>
  intro out
  by_cases h:aheadZ c x=true
  ·have e:plGo c (x::r) false out=(out++[c]++[x]++r,true):=by rw[plGo,if_pos ⟨h,rfl⟩,plGo_true]
   rw[e,insL,if_pos h]
   simp
  ·have e:plGo c (x::r) false out=plGo c r false (out++[x]):=by rw[plGo,if_neg (fun e=>h e.1)]
   rw[e,ih,insL,if_neg h]
   simp
theorem placed_ins (l:List CoinD) (c:CoinD):placedR l c=insL c l:=by
 have:=plGo_false c l []
 unfold placedR
 simpa using this
abbrev SortC (l:List CoinD):Prop:=l.Pairwise (fun a b=>aheadZ b a=false)
theorem ahead_trans (h:aheadZ c y=true) (h2:aheadZ z y=false):aheadZ c z=true:=by
 unfold aheadZ at *
 split at h<;>split at h2<;>split<;>simp_all<;>omega
theorem ahead_asym (h:aheadZ c y=true):aheadZ y c=false:=by
 unfold aheadZ at *
 split at h<;>split<;>simp_all<;>omega
theorem insL_mem:∀ {l:List CoinD},x∈insL c l->x=c\/x∈l:=by
 intro l
 induction l with
 |nil=>intro h;simp[insL] at h;exact Or.inl h
 |cons y r ih=>
  intro h
  rw[insL] at h
  split at h
  ·simpa using h
  ·rcases List.mem_cons.1 h with h|h
   ·exact Or.inr (by simp[h])
   ·rcases ih h with h|h
    ·exact Or.inl h
    ·exact Or.inr (by simp[h])
theorem insL_sort (c:CoinD):∀ (l:List CoinD),SortC l->SortC (insL c l):=by
 intro l
 induction l with
 |nil=>intro _;simp[insL]
 |cons y r ih=>
  intro h
  obtain⟨h1,h2⟩:=List.pairwise_cons.1 h
  rw[insL]
  by_cases e:aheadZ c y=true
  ·rw[if_pos e]
   refine List.pairwise_cons.2 ⟨fun z hz=>?_,h⟩
   rcases List.mem_cons.1 hz with rfl|hz
   ·exact ahead_asym e
   ·exact ahead_asym (ahead_trans e (h1 z hz))
  ·rw[if_neg e]
   refine List.pairwise_cons.2 ⟨fun z hz=>?_,ih h2⟩
   rcases insL_mem hz with rfl|hz
   ·simpa using e
   ·exact h1 z hz
theorem ins_at (c:CoinD):∀ (l:List CoinD),SortC l->∃ p,p<=l.length/\insL c l=insAt l c p/\(∀ i,i<p->aheadZ c (l.getD i dN)=false)/\(∀ i,p<=i->i<l.length->aheadZ c (l.getD i dN)=true):=by
 intro l
 induction l with
 |nil=>intro _;exact⟨0,leR,rfl,fun i hi=>by omega,fun i _ hi=>by simp at hi⟩
 |cons y r ih=>
  intro h
  obtain⟨h1,h2⟩:=List.pairwise_cons.1 h
  rw[insL]
  by_cases e:aheadZ c y=true
  ·rw[if_pos e]
   refine⟨0,Nat.zero_le _,rfl,fun i hi=>by omega,fun i _ hi=>?_⟩
   cases i with
   |zero=>exact e
   |succ i=>
    have hi':i<r.length:=by simpa using hi
    have:=h1 (r.getD i dN) (getD_mem r dN i hi')
    exact ahead_trans e this
  ·rw[if_neg e]
   obtain⟨p,p1,p2,p3,p4⟩:=ih h2
   refine⟨p+1,by simpa using p1,by rw[p2];simp[insAt],fun i hi=>?_,fun i hp hi=>?_⟩
   ·cases i with
    |zero=>simpa using e
    |succ i=>exact p3 i (by omega)
   ·cases i with
    |zero=>omega
    |succ i=>exact p4 i (by omega) (by simpa using hi)
theorem insI_at (c : CoinD) (l : List CoinD) (p : Nat) (h1 : ∀ i, i < p → aheadZ c (l.getD i dN) = false) : ∀ n, p ≤ n → (∀ i, p ≤ i → i < n → aheadZ c (l.getD i dN) = true) → insI false l c n = p := by
  intro n
  induction n with
  | zero => intro hp _; have : p = 0 := by omega
            subst this; rfl
  | succ n ih =>
    intro hp h2
    rw [insI, aheadG_no]
    by_cases e : p ≤ n
    · rw [if_pos (h2 n e (by omega))]
      exact ih e (fun i hi hn => h2 i hi (by omega))
    · rw [if_neg (by rw [h1 n (by omega)]; simp)]
      omega
theorem ins_same (c:CoinD) (l:List CoinD) (h:SortC l):insZ false l c=insL c l:=by
 obtain⟨p,p1,p2,p3,p4⟩:=ins_at c l h
 rw[p2,insZ,insI_at c l p p3 l.length p1 (fun i hi hn=>p4 i hi hn)]
theorem idxOf_app {α:Type} (p:α->Bool):∀ (a b:List α) (i:Nat),idxOf p (a++b) i=if idxOf p a i<0 then idxOf p b (i+a.length) else idxOf p a i:=by
 intro a
 induction a with
 |nil=>intro b i;simp[idxOf]
 |cons x r ih=>
  intro b i
  rw[List.cons_append,idxOf,idxOf]
  by_cases h:p x=true
  ·rw[if_pos h,if_pos h,if_neg (by omega)]
  ·rw[if_neg h,if_neg h,ih]
   rw[List.length_cons,show i+1+r.length=i+(r.length+1) by omega]
theorem idxOf_shift {α:Type} (p:α->Bool):∀ (l:List α) (i:Nat),idxOf p l i=if idxOf p l 0<0 then -1 else idxOf p l 0+i:=by
 intro l
 have h:∀ (l:List α) (i j:Nat),idxOf p l (i+j)=if idxOf p l i<0 then -1 else idxOf p l i+j:=by
  intro l
  induction l with
  |nil=>intro i j;simp[idxOf]
  |cons x r ih=>
   intro i j
   rw[idxOf,idxOf]
   by_cases hp:p x=true
   ·rw[if_pos hp,if_pos hp,if_neg (by omega)];omega
   ·rw[if_neg hp,if_neg hp,show i+j+1=i+1+j by omega,ih (i+1) j]
 intro i
 have:=h l 0 i
 rw[Nat.zero_add] at this
 exact this
theorem key_index (s br:Int) (n:Nat) (a:Int) (hn:n<=100):idxOf (fun x:KeyD=>x.ad== a) (keysB s br n) 0=indexR (adrs s br 100) n a:=by
 unfold indexR
 rw[idxOf_vals,idxOf_vals (fun x:Int=>x== a)]
 congr 1
 unfold keysB adrs
 rw[<-List.map_take,List.take_range,Nat.min_eq_left hn,List.map_map,List.map_map]
 rfl
theorem indexR_cases (s br:Int) (n:Nat) (a:Int) (hn:n<=100):indexR (adrs s br 100) n a=-1\/∃ j:Nat,indexR (adrs s br 100) n a=(j:Int)/\j<n:=by
 rcases idxOf_cases (fun x:Int=>x== a) 0 ((adrs s br 100).take n) 0 with h|⟨j,h1,h2,_⟩
 ·exact Or.inl h
 ·rw[List.length_take,adrs_len] at h1
  exact Or.inr ⟨j,by unfold indexR;rw[h2];simp,by omega⟩
theorem keysB_get (s br:Int) (n j:Nat) (h:j<n):(keysB s br n).getD j dK=⟨br,j,Mk.adr s br j⟩:=by
 simp[keysB,List.getD,h]
theorem step_sync (s:Int) (n0 n1:Nat) (h0:n0<=100) (h1:n1<=100) (acc:List CoinD) (hs:SortC acc) (x:Cel) (hx:(x.spent== -1)=true):
 ownStep (keysB s 0 n0++keysB s 1 n1) acc x.c=ownRS (adrs s 0 100) (adrs s 1 100) n0 n1 acc (toR x):=by
 obtain⟨i,p,a,v,m,sp⟩:=x
 have hr:ownRS (adrs s 0 100) (adrs s 1 100) n0 n1 acc (toR ⟨i,p,a,v,m,sp⟩)=match ownK (adrs s 0 100) (adrs s 1 100) n0 n1 (toR ⟨i,p,a,v,m,sp⟩) with
  |none=>acc
  |some c=>placedR acc c:=by
  unfold ownRS
  rw[if_neg (by simp only[toR];rw[hx];simp)]
  rfl
 rw[hr]
 have hf:firstZ (keysB s 0 n0++keysB s 1 n1) a=if indexR (adrs s 0 100) n0 a<0 then(if indexR (adrs s 1 100) n1 a<0 then -1 else indexR (adrs s 1 100) n1 a+(n0:Int)) else indexR (adrs s 0 100) n0 a:=by
  unfold firstZ
  rw[idxOf_app,idxOf_shift _ (keysB s 1 n1),keysB_len,key_index _ _ _ _ h0,key_index _ _ _ _ h1,Nat.zero_add]
 have hk:ownK (adrs s 0 100) (adrs s 1 100) n0 n1 (toR ⟨i,p,a,v,m,sp⟩)=if 0<=indexR (adrs s 0 100) n0 a then some ⟨i,p,a,v,0,indexR (adrs s 0 100) n0 a⟩ else if 0<=indexR (adrs s 1 100) n1 a then some ⟨i,p,a,v,1,indexR (adrs s 1 100) n1 a⟩ else none:=rfl
 rw[hk]
 show ownStep (keysB s 0 n0++keysB s 1 n1) acc ⟨i,p,a,v⟩=_
 rcases indexR_cases s 0 n0 a h0 with e0|⟨j0,e0,hj0⟩
 ·rw[e0,if_pos (by omega)] at hf
  rw[e0,if_neg (by omega)]
  rcases indexR_cases s 1 n1 a h1 with e1|⟨j1,e1,hj1⟩
  ·rw[e1,if_pos (by omega)] at hf
   rw[e1,if_neg (by omega)]
   exact ownStep_no _ _ _ hf
  ·rw[e1,if_neg (by omega)] at hf
   rw[e1,if_pos (by omega)]
   rw[ownStep_yes _ acc ⟨i,p,a,v⟩ (j1+n0) (by show firstZ _ a=_;rw[hf];omega)]
   rw[getD_app_right _ _ _ _ (by rw[keysB_len];omega),keysB_len,show j1+n0-n0=j1 by omega,keysB_get _ _ _ _ hj1]
   simp only
   rw[placed_ins,<-ins_same _ _ hs]
   rfl
 ·rw[e0,if_neg (by omega)] at hf
  rw[e0,if_pos (by omega)]
  rw[ownStep_yes _ acc ⟨i,p,a,v⟩ j0 hf]
  rw[getD_app_left _ _ _ _ (by rw[keysB_len];exact hj0),keysB_get _ _ _ _ hj0]
  simp only
  rw[placed_ins,<-ins_same _ _ hs]
  rfl
theorem ownRS_sort (t0 t1:List Int) (n0 n1:Nat) (acc:List CoinD) (h:SortC acc) (x:RCel):SortC (ownRS t0 t1 n0 n1 acc x):=by
 unfold ownRS
 split
 ·exact h
 ·split
  ·exact h
  ·rw[placed_ins];exact insL_sort _ _ h
theorem own_sync (xs:List Cel) (s:Int) (g:Nat) (hg:g<=20):ownR (xs.map toR) (adrs s 0 100) (adrs s 1 100) (winR (xs.map toR) s g 0) (winR (xs.map toR) s g 1)=ownZ (keysZ xs s g) (coinsC xs):=by
 rw[win_sync xs s g 0 hg,win_sync xs s g 1 hg]
 have h0:=winZ_le xs s g 0
 have h1:=winZ_le xs s g 1
 unfold keysZ
 generalize winZ xs s g 0=n0 at *
 generalize winZ xs s g 1=n1 at *
 have:∀ (l:List Cel) (acc:List CoinD),SortC acc->(l.map toR).foldl (ownRS (adrs s 0 100) (adrs s 1 100) n0 n1) acc=(coinsC l).foldl (ownStep (keysB s 0 n0++keysB s 1 n1)) acc:=by
  intro l
  induction l with
  |nil=>intro acc _;rfl
  |cons x r ih=>
   intro acc hs
   rw[List.map_cons,List.foldl_cons]
   cases hx:(x.spent== -1)
   ·have e1:ownRS (adrs s 0 100) (adrs s 1 100) n0 n1 acc (toR x)=acc:=by
     unfold ownRS
     rw[if_pos (by simp only[toR];rw[hx];rfl)]
    have e2:coinsC (x::r)=coinsC r:=by unfold coinsC;rw[List.filter_cons,if_neg (by rw[hx];simp)]
    rw[e1,e2]
    exact ih acc hs
   ·have e2:coinsC (x::r)=x.c::coinsC r:=by unfold coinsC;rw[List.filter_cons,if_pos (by rw[hx])];rfl
    rw[e2,List.foldl_cons,step_sync s n0 n1 h0 h1 acc hs x hx]
    exact ih _ (ownRS_sort _ _ _ _ _ hs _)
 exact this xs [] List.Pairwise.nil
end
section
open Go.RowKit

variable {N X:NPr} {E DE:List (Nat×Value)} {G P D:Nat} {V:Value} {s:Int} {g:Nat} {v:Value} {ao:OAd} {c:Nat} {bls:List (List TxD)} {xs:List Cel}
theorem own_vals (xs:List Cel) (s:Int) (g:Nat) (hv:Vals xs):∀ x∈ownZ (keysZ xs s g) (coinsC xs),0<=x.val/\x.val<=1099511627776:=
 ownZ_val (keysZ xs s g) (fun x=>0<=x/\x<=1099511627776) _ (coinsC_val (fun x=>0<=x/\x<=1099511627776) xs hv)
end
section
open Go.RowKit

variable {N X:NPr} {E DE:List (Nat×Value)} {G P D:Nat} {V:Value} {s:Int} {g:Nat} {v:Value} {ao:OAd} {c:Nat} {bls:List (List TxD)} {xs:List Cel}
def DrX (X:NPr) (D G Dr:Nat) (vc vn:Value) (ao ar ac:OAd):Prop:=∀ q,drE Dr vc vn q->X q/\q≠D/\q≠G/\(∀ a,ao=some a->a.block≠q)/\(∀ a,ar=some a->a.block≠q)/\(∀ a,ac=some a->a.block≠q)
def OInv (s:Int) (g:Nat) (k G B:Nat) (w:World):Prop:=
 ∃ (X:NPr) (D Dr:Nat) (v:Value) (ao:OAd) (c:Nat) (bls:List (List TxD)) (xs:List Cel) (ar:OAd) (cr:Nat) (ac:OAd) (cc:Nat) (vc vn:Value),GI (fun k=>k<B) X exE (deE s (g:Int) (.slice ar 100 cr) (.slice ac 100 cc)) G B D (.pointer (some ⟨Dr,0,none⟩)) s g v ao c bls xs w/\AdX X D ar ac/\IntsAt w ar (adrs s 0 100)/\IntsAt w ac (adrs s 1 100)/\DrI w Dr (G+1) vc vn k/\DrX X D G Dr vc vn ao ar ac
theorem DrI.more {w:World} {Dr B:Nat} {vc vn:Value} {q:Nat} (h:DrI w Dr B vc vn q):DrI w Dr B vc vn (q+1):=by
 obtain⟨cs,oc,lc⟩:=h.oc
 obtain⟨ns,on,ln⟩:=h.on
 exact⟨h.n0,h.f0,h.c5,h.f5,h.c10,h.f10,⟨cs,oc,by omega⟩,⟨ns,on,by omega⟩,h.ne,h.lt⟩
end
section
open Go.RowKit
variable {w w':World} {b off G n:Nat} {xs gs:List Bool} {p:CoinD->Bool} {l:List CoinD} {y:CoinD} {row:Option Nat}
def ckF (hs:List Bool):Nat->Nat->Int
 |0,_=>-1
 |f+1,i=>if hs.getD i false=true then ckF hs f (i+1) else(i:Int)
def ckR (l:List RCel) (s:Int) (g nx:Nat):Int:=ckF (hitsR l (adrs s 1 100)) (winR l s g 1-nx) nx
theorem ckF_bd (hs:List Bool):∀ (f i:Nat),ckF hs f i=-1\/((i:Int)<=ckF hs f i/\ckF hs f i<(i:Int)+f):=by
 intro f
 induction f with
 |zero=>intro i;exact Or.inl rfl
 |succ f ih=>
  intro i
  rw[ckF]
  split
  ·rcases ih (i+1) with h|h
   ·exact Or.inl h
   ·right;push_cast at h ⊢;omega
  ·right;push_cast;omega
theorem bCell (h:VRow w b off (xs.flatMap bV)) (j:Nat) (hj:j<xs.length):w.cell? ⟨b,off+j,none⟩=some (.bool (xs.getD j false)):=by
 have:=rcell (f:=bV) (k:=1) (fun _=>rfl) false h j hj 0 (by omega)
 rw[Nat.mul_one,Nat.add_zero] at this
 exact this
theorem changeKey_any (N:NPr) (D:Nat) (ao:OAd) (c:Nat) (bls:List (List TxD)) (s:Int) (g:Nat) (ar:OAd) (cr:Nat) (ac:OAd) (cc:Nat) (nx:Nat) (w:World) (hx:DCh N w D ao c bls) (hg:Good bls) (hm:bls.length<=40) (ha:DAd w D s g ar cr ac cc) (g1:g<=20) (hgv:w.cell? ⟨D,6,none⟩=some (.int .i64 ((nx:Int)-1))) (hnx:nx<=1000):
 Calls Tryz.prog 168 #[.pointer (some ⟨D,0,none⟩)] w fun e w'=>e=.returned (.int .i64 (ckR (cellsR bls) s g nx))/\Below w.heap.size w w':=by
 obtain⟨cs,hch⟩:=hx.ch
 have c4:=hx.c4
 have HC:=hiD hch
 have HG:=hiD hg
 have HA:=hiD ha
 have HGV:=hiD hgv
 have hll:=cellsR_len hg
 have hDl:D<w.heap.size:=cell_lt c4
 have hwn:IntKind.i64.wrap ((nx:Int)-1+1)=(nx:Int):=by rw[show(nx:Int)-1+1=(nx:Int) by omega];exact IntWalk.i64_in _ ⟨by omega,by omega⟩
 clear hx hch hg ha hgv
 generalize hnl:bls.length=n at *
 have HN:=hiD hnl
 clear hnl
 go_enter Tryz.func168,Tryz.ntmps168
 go_wp2_with fail
 refine(cells_any N ao n c cs bls _ HC HN (by omega) (fun i hi=>HG.out.small i (by rw[HN.out];exact hi))).mono ?_
 rintro e w1 ⟨v1,rfl,hown1,hb1⟩
 obtain⟨al,cl,rfl,hat⟩:=OwnRec.at rc5 hown1
 have HAT:=hiD hat
 have HA1:=hiD (HA.out.grown hb1)
 clear hat hown1 c4 HC HG
 have HCK:Hid (ckR (cellsR bls) s g nx=ckF (hitsR (cellsR bls) (adrs s 1 100)) (winR (cellsR bls) s g 1-nx) nx):=rfl
 have HWE:Hid (winR (cellsR bls) s g 1=wfind (hitsR (cellsR bls) (adrs s 1 100)) g (100-g) g):=rfl
 have hW100:winR (cellsR bls) s g 1<=100:=winR_le _ _ _ _ (by omega)
 generalize hcke:ckR (cellsR bls) s g nx=CK at *
 have HCKE:=hiD hcke
 clear hcke
 generalize winR (cellsR bls) s g 1=WN at *
 generalize hlE:cellsR bls=l at *
 have HLE:=hiD hlE
 clear hlE
 have d3:=HA1.out.c3
 generalize hml:l.length=m at *
 have HM:=hiD hml
 clear hml
 go_wp2_with fail
 refine(seen_any ac 100 cc (adrs s 1 100) al m cl l _ HA1.out.i1 (adrs_len _ _ _) HAT HM (by omega) (by omega)).mono ?_
 rintro e w4 ⟨ai,ci,rfl,hh4,hb4⟩
 have hbx:Below w4.heap.size w4 (w4.alloc (.cells #[.slice ac 100 cc,.slice ai 100 ci] 236)):=(Below.refl _ _).alloc leR _
 have z0:(w4.alloc (.cells #[.slice ac 100 cc,.slice ai 100 ci] 236)).cell? ⟨w4.heap.size,0,none⟩=some (.slice ac 100 cc):=by rw[World.cell?_alloc_new];rfl
 have z1:(w4.alloc (.cells #[.slice ac 100 cc,.slice ai 100 ci] 236)).cell? ⟨w4.heap.size,1,none⟩=some (.slice ai 100 ci):=by rw[World.cell?_alloc_new];rfl
 have hb14:Below w1.heap.size w1 (w4.alloc (.cells #[.slice ac 100 cc,.slice ai 100 ci] 236)):=below_blk hb4 hbx
 have HA4:=hiD (HA1.out.grown hb14)
 have HH4:=hiD (hh4.grown hbx)
 have hb04:=below_blk hb1 hb14
 have d1:=HA4.out.c1
 have HHL:Hid ((hitsR l (adrs s 1 100)).length=100):=by show _=_;rw[hits_len,adrs_len]
 clear hh4 hb4 hb14 hbx HA1 HAT d3 hb1
 generalize hitsR l (adrs s 1 100)=hs at *
 go_upto_region 3 with fail
 generalize w4.alloc (.cells #[.slice ac 100 cc,.slice ai 100 ci] 236)=w5 at *
 generalize w4.heap.size=T6 at *
 have HHd:Hid (RecAt bV w5.drew ai hs):=RecAt.heap HH4.out rfl
 have HKB:Hid (∀ w6,Below w5.drew.heap.size w5.drew w6->w6.cell? ⟨T6,0,none⟩=some (.slice ac 100 cc)/\w6.cell? ⟨T6,1,none⟩=some (.slice ai 100 ci)/\w6.cell? ⟨D,1,none⟩=some (.int .i64 (g:Int))):=fun w6 hb=>keep3 (w2:=w5.drew) hb z0 z1 d1
 go_wp2
 go_region_held3 (fun w'=>w'.cell? ⟨T6,0,none⟩=some (.slice ac 100 cc)/\w'.cell? ⟨T6,1,none⟩=some (.slice ai 100 ci)/\w'.cell? ⟨D,1,none⟩=some (.int .i64 (g:Int))) (first|assumption|go_keep) ((go_at_call 180;refine(rwindow_any ac 100 cc ai ci hs g _ HHd HHL (by omega)).mono ?_;rintro e w6 ⟨rfl,hb6⟩;have hk6:=HKB.out w6 hb6))
 rw[<-HWE.out]
 have hb5d:Below w5.heap.size w5 w6:=((Below.refl w5.heap.size w5).drew).trans hb6
 have hb06:=below_blk hb04 hb5d
 have HH6:=hiD (HH4.out.grown hb5d)
 have dg:=(hb06.cell (p:=⟨D,6,none⟩) hDl).trans HGV.out
 have y1:=hk6.2.1
 clear hk6 hb6 HKB HHd HH4 HA4 z0 z1 d1 hb5d hb04
 go_wp2
 go_loopw [6] (fun i wr=>∃ k:Nat,i=.int .i64 k/\Hid (ckF hs (WN-k) k=CK)/\w6=wr) (fun i _=>WN-(intOf i).toNat)
 case atStart=>exact⟨nx,rfl,HCK.out.symm,rfl⟩
 case round=>
  obtain⟨k,rfl,hz,rfl⟩:=hrel
  by_cases hlt:k<WN
  ·have hz':=hz.out
   rw[show WN-k=(WN-(k+1))+1 by omega,ckF] at hz'
   rcases HH6.out with hnil|⟨gg,off,rfl,hrow⟩
   ·have:=HHL.out;rw[hnil] at this;simp at this
   have e0:=bCell hrow k (by rw[HHL.out];omega)
   have hkI:(k:Int)<100:=by omega
   have hk0:(0:Int)<=(k:Int):=by omega
   clear hrow
   generalize hs.getD k false=b at *
   cases b
   ·have HF:Hid ((k:Int)=CK):=by show _=_;simpa using hz'
    go_wp2
    go_ret
    exact⟨ret_int (HF.out.trans (by rw[<-HCKE.out,<-HLE.out])),hb06⟩
   ·have HF:Hid (ckF hs (WN-(k+1)) (k+1)=CK):=by show _=_;simpa using hz'
    go_wp2
    go_roundw
    case rel=>exact⟨k+1,by go_num,HF,trivial⟩
    case measure=>simp[intOf];omega
  ·have HF:Hid (-1=CK):=by
    have:=hz.out
    rw[show WN-k=0 by omega,ckF] at this
    exact this
   go_wp2
   go_ret
   exact⟨ret_int (HF.out.trans (by rw[<-HCKE.out,<-HLE.out])),hb06⟩
def remB (p:CoinD->Bool) (l:List CoinD) (gs:List Bool):List CoinD:=((l.zip gs).filter fun x=>p x.1&&!x.2).map Prod.fst
theorem remB_start (p:CoinD->Bool) (l:List CoinD):remB p l (List.replicate l.length false)=l.filter p:=by
 unfold remB
 induction l with
 |nil=>rfl
 |cons x t ih=>
  rw[List.length_cons,List.replicate_succ,List.zip_cons_cons,List.filter_cons,List.filter_cons]
  cases h:p x
  ·simp only[Bool.false_and,Bool.false_eq_true,if_false];exact ih
  ·simp only[Bool.not_false,Bool.and_true,if_true,List.map_cons];rw[ih]
theorem remB_app (p:CoinD->Bool) (l1 l2:List CoinD) (g1 g2:List Bool) (h:l1.length=g1.length):remB p (l1++l2) (g1++g2)=remB p l1 g1++remB p l2 g2:=by
 unfold remB
 rw[List.zip_append h,List.filter_append,List.map_append]
theorem remB_cons (p:CoinD->Bool) (x:CoinD) (l:List CoinD) (b:Bool) (gs:List Bool):remB p (x::l) (b::gs)=(if p x&&!b then [x] else [])++remB p l gs:=by
 unfold remB
 rw[List.zip_cons_cons,List.filter_cons]
 simp only
 cases p x&&!b
 ·simp
 ·simp
theorem remB_mem (h:y∈remB p l gs):∃ j,j<l.length/\j<gs.length/\y=l.getD j dN/\p y=true/\gs.getD j false=false:=by
 unfold remB at h
 obtain⟨⟨c,b⟩,hx,rfl⟩:=List.mem_map.1 h
 obtain⟨hz,hp⟩:=List.mem_filter.1 hx
 rw[Bool.and_eq_true] at hp
 obtain⟨j,hj,e⟩:=List.getElem_of_mem hz
 have hj2:j<l.length/\j<gs.length:=by rw[List.length_zip] at hj;omega
 rw[List.getElem_zip] at e
 injection e with e1 e2
 refine⟨j,hj2.1,hj2.2,?_,hp.1,?_⟩
 ·simp[List.getD,hj2.1,e1]
 ·rw[List.getD,List.getElem?_eq_getElem hj2.2,Option.getD_some,e2]
  have:=hp.2
  simp only at this
  cases b
  ·rfl
  ·cases this
theorem remB_nil (h:∀ j,j<l.length->p (l.getD j dN)=true->gs.getD j false=true):remB p l gs=[]:=by
 rw[List.eq_nil_iff_forall_not_mem]
 intro y hy
 obtain⟨j,h1,h2,h3,h4,h5⟩:=remB_mem hy
 rw[h3] at h4
 rw[h j h1 h4] at h5
 cases h5
theorem remB_pick (hl:l.length=gs.length) (hs:List.Pairwise (fun a b=>aheadZ b a=false) l) (b:Nat) (hb:b<l.length) (hp:p (l.getD b dN)=true) (hg:gs.getD b false=false)
 (h1:∀ j,j<b->p (l.getD j dN)=true->gs.getD j false=false->(l.getD j dN).val<(l.getD b dN).val) (h2:∀ j,b<j->j<l.length->p (l.getD j dN)=true->gs.getD j false=false->(l.getD j dN).val<=(l.getD b dN).val):
 (remB p l gs).foldl (insZ true) []=l.getD b dN::(remB p l (gs.set b true)).foldl (insZ true) []:=by
 have hbg:b<gs.length:=by omega
 have el:l=l.take b++l.getD b dN::l.drop (b+1):=by
  rw[show l.getD b dN=l[b] by simp[List.getD,hb]]
  rw[<-List.drop_eq_getElem_cons hb,List.take_append_drop]
 have eg:gs=gs.take b++false::gs.drop (b+1):=by
  have:gs[b]=false:=by rw[List.getD,List.getElem?_eq_getElem hbg,Option.getD_some] at hg;exact hg
  rw[<-this,<-List.drop_eq_getElem_cons hbg,List.take_append_drop]
 have es:gs.set b true=gs.take b++true::gs.drop (b+1):=List.set_eq_take_append_cons_drop .. |>.trans (by rw[if_pos hbg])
 have hlt:(l.take b).length=(gs.take b).length:=by rw[List.length_take,List.length_take];omega
 have e1:remB p l gs=remB p (l.take b) (gs.take b)++l.getD b dN::remB p (l.drop (b+1)) (gs.drop (b+1)):=by
  conv=>lhs;rw[el,eg]
  rw[remB_app p _ _ _ _ hlt,remB_cons,hp]
  rfl
 have e2:remB p l (gs.set b true)=remB p (l.take b) (gs.take b)++remB p (l.drop (b+1)) (gs.drop (b+1)):=by
  conv=>lhs;rw[es,el]
  rw[remB_app p _ _ _ _ hlt,remB_cons,Bool.not_true,Bool.and_false]
  rfl
 rw[e1,e2]
 refine ins_head _ _ _ (fun y hy=>?_) (fun y hy=>?_)
 ·obtain⟨j,j1,j2,rfl,j4,j5⟩:=remB_mem hy
  rw[List.length_take] at j1 j2
  have a1:(l.take b).getD j dN=l.getD j dN:=by rw[List.getD,List.getElem?_take,if_pos (by omega)];rfl
  have a2:(gs.take b).getD j false=gs.getD j false:=by rw[List.getD,List.getElem?_take,if_pos (by omega)];rfl
  rw[a1] at j4 ⊢
  rw[a2] at j5
  exact h1 j (by omega) j4 j5
 ·obtain⟨j,j1,j2,rfl,j4,j5⟩:=remB_mem hy
  rw[List.length_drop] at j1 j2
  have a1:(l.drop (b+1)).getD j dN=l.getD (b+1+j) dN:=by rw[List.getD,List.getElem?_drop];rfl
  have a2:(gs.drop (b+1)).getD j false=gs.getD (b+1+j) false:=by rw[List.getD,List.getElem?_drop];rfl
  rw[a1] at j4 ⊢
  rw[a2] at j5
  have hv:=h2 (b+1+j) (by omega) (by omega) j4 j5
  by_cases e:(l.getD (b+1+j) dN).val=(l.getD b dN).val
  ·right
   refine⟨e,?_⟩
   have:=List.pairwise_iff_getElem.1 hs b (b+1+j) hb (by omega) (by omega)
   simpa [List.getD,hb,show b+1+j<l.length by omega] using this
  ·left;omega
theorem insF_len:∀ (l acc:List CoinD),(l.foldl (insZ true) acc).length=acc.length+l.length:=by
 intro l
 induction l with
 |nil=>intro acc;rfl
 |cons x t ih=>intro acc;rw[List.foldl_cons,ih,insG_len,List.length_cons];omega
def elD (ms:List MadeD) (r:Int) (c:CoinD):Bool:=(!takenB ms c.id c.pos&&!usedR ms c.br c.ix)&&decide (1<=worthZ r c)
def candD (ms:List MadeD) (r:Int) (l:List CoinD):List CoinD:=(l.filter (elD ms r)).foldl (insZ true) []
theorem candD_len (ms:List MadeD) (r:Int) (l:List CoinD):(candD ms r l).length<=l.length:=by
 unfold candD
 rw[insF_len,List.length_nil,Nat.zero_add]
 exact List.length_filter_le _ _
theorem candD_order (ms:List MadeD) (r:Int) (l:List CoinD):candD ms r l=orderZ r (l.filter fun c=>!takenB ms c.id c.pos&&!usedR ms c.br c.ix):=by
 rw[orderZ_filter,List.filter_filter]
 unfold candD
 congr 1
 refine List.filter_congr (fun c _=>?_)
 unfold elD
 rw[Bool.and_comm]
structure GoneAt (w:World) (G n:Nat) (gs:List Bool):Prop where
 len:gs.length=n
 cell:∀ j,j<n->w.cell? ⟨G,j,none⟩=some (.bool (gs.getD j false))
 fz:∀ j,w.frozen? ⟨G,j,none⟩=false
theorem GoneAt.grown (h:GoneAt w G n gs) (hG:G<w.heap.size) (hb:Below w.heap.size w w'):GoneAt w' G n gs:=
 ⟨h.len,fun j hj=>(hb.cell (p:=⟨G,j,none⟩) hG).trans (h.cell j hj),fun j=>(hb.frozen (p:=⟨G,j,none⟩) hG).trans (h.fz j)⟩
theorem GoneAt.gb (hg:w.grownBy w' row) (h:GoneAt w G n gs) (hG:G<w.heap.size) (hne:some G≠row):GoneAt w' G n gs:=
 ⟨h.len,fun j hj=>gb_cell hg (h.cell j hj) hne,fun j=>(gb_frozen hg hG hne).trans (h.fz j)⟩
theorem GoneAt.set (h:GoneAt w G n gs) (b:Nat) (hb:b<n):GoneAt (w.setCell ⟨G,b,none⟩ (.bool true)) G n (gs.set b true):=by
 refine⟨by rw[List.length_set];exact h.len,fun j hj=>?_,fun j=>by rw[World.frozen?_setCell];exact h.fz j⟩
 by_cases e:j=b
 ·subst e
  rw[World.cell?_setCell_same _ _ _ (h.cell j hj)]
  have:=h.len
  simp[List.getD,show j<gs.length by omega]
 ·rw[World.cell?_setCell_other _ _ _ _ (by intro e2;exact e (congrArg Addr.off e2).symm),h.cell j hj]
  simp[List.getD,show ¬b=j from fun h=>e h.symm]
theorem GoneAt.new (w:World) (n:Nat):GoneAt (w.alloc (.cells (Go.madeCells #[Value.bool false] n) 4)) w.heap.size n (List.replicate n false):=by
 refine⟨List.length_replicate,fun j hj=>?_,fun j=>World.frozen?_alloc_at _ _ _ _ rfl⟩
 rw[World.cell?_alloc_new]
 have:(Go.madeCells #[Value.bool false] n)[j]?=some (Value.bool false):=by
  simp only[Go.madeCells,Array.getElem?_map]
  rw[Array.getElem?_eq_getElem (by simpa using hj)]
  simp[Nat.mod_one]
 simp[this,List.getD,hj]
theorem make_bools (n:Nat) (hn:n<=1000000):∀ u:World,(Instr.makeSlice 105 (.int .i64 (n:Int)) (.int .i64 (n:Int))).run Tryz.prog u =
 .ok (.slice (some ⟨u.heap.size,0,none⟩) n n) (u.alloc (.cells (Go.madeCells #[.bool false] n) 4)):=fun u=>by
 obtain⟨i0,hi,hz0,hz1,hz2⟩:=info_parts info4
 have h:=run_make (P:=Tryz.prog) u 105 4 i0 (.bool false) Tryz.underlying105 hi hz0 .i64 .i64 (n:Int) (n:Int) (by omega) (Int.le_refl _) (by rw[hz2];omega) (by omega)
 have e:(n:Int).toNat=n:=by omega
 rw[e] at h
 simpa [hz1,Value.cells] using h
end
end Go.Proofs.YtffgpepngcnjeabGreat
