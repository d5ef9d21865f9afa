import Derived.Test.YtffgpepngcnjeabGreatSbb
import Derived.Test.YtffgpepngcnjeabGreatSbg
namespace Go.Proofs.YtffgpepngcnjeabGreat
set_option maxRecDepth 100000
set_option maxHeartbeats 2000000
section
open Go.RowKit

theorem info187:(Tryz.prog.info? 187).map (fun i=>(i.zero,i.size,i.bytes))=some (some (.agg #[.int .i64 0,.int .i64 0,.slice none 0 0,.slice none 0 0,.slice none 0 0,.int .i64 0,.slice none 0 0,.bool false,.bool false]),9,128):=by kernel_rfl
theorem MadeOk.fr {E N:NPr} {w w':World} {a:MadeD} (h:MadeOk N w a) (hf:Fr E w w') (hn:∀ k,N k->¬E k):MadeOk N w' a:=by
 have k1:∀ {f:CoinD->List Value} {p:OAd},RecAt f w p a.cs->(∀ q,p=some q->a.cs≠[]->N q.block)->RecAt f w' p a.cs:=fun hr hq=>by
  rcases hr with e|⟨b,off,rfl,hr⟩
  ·exact Or.inl e
  ·by_cases e:a.cs=[]
   ·exact Or.inl e
   ·exact Or.inr ⟨b,off,rfl,hf.vrow hr (hn _ (hq _ rfl e))⟩
 refine⟨k1 h.ins (fun q e e2=>h.ni e2 q (Or.inl e)),?_,k1 h.keys (fun q e e2=>h.ni e2 q (Or.inr (Or.inl e))),k1 h.coins (fun q e e2=>h.ni e2 q (Or.inr (Or.inr e))),h.ln,h.lm,h.lq,h.lx,h.b1,h.b2,h.ni,h.no⟩
 rcases h.outs with e|⟨b,off,e1,hr⟩
 ·exact Or.inl e
 ·by_cases e:a.zs=[]
  ·exact Or.inl e
  ·exact Or.inr ⟨b,off,e1,hf.vrow hr (hn _ (h.no e _ e1))⟩
theorem MadeOk.more {N N':NPr} {w:World} {a:MadeD} (h:MadeOk N w a) (hn:∀ k,N k->N' k):MadeOk N' w a:=
 ⟨h.ins,h.outs,h.keys,h.coins,h.ln,h.lm,h.lq,h.lx,h.b1,h.b2,fun e p hp=>hn _ (h.ni e p hp),fun e p hp=>hn _ (h.no e p hp)⟩
structure DPy (N:NPr) (w:World) (D base:Nat) (vm:Value) (nx:Int) (ms:List MadeD):Prop where
 c5:w.cell? ⟨D,5,none⟩=some vm
 c6:w.cell? ⟨D,6,none⟩=some (.int .i64 (nx-1))
 f5:w.frozen? ⟨D,5,none⟩=false
 f6:w.frozen? ⟨D,6,none⟩=false
 ow:OwnRec MadeD.v 187 9 w base vm ms
 ok:∀ a∈ms,MadeOk N w a
 nb:D<base
 nN:∀ k,N k->k<w.heap.size/\k≠D/\vm.ownBlock≠some k
theorem DPy.fr {E N:NPr} {w w':World} {D base:Nat} {vm:Value} {nx:Int} {ms:List MadeD} (h:DPy N w D base vm nx ms) (hf:Fr E w w') (h1:¬E D) (h2:∀ k,vm.ownBlock=some k->¬E k) (h3:∀ k,N k->¬E k):DPy N w' D base vm nx ms:=
 ⟨hf.cell h.c5 h1,hf.cell h.c6 h1,(hf.frozen (cell_lt h.c5) h1).trans h.f5,(hf.frozen (cell_lt h.c6) h1).trans h.f6,hf.own h.ow h2,fun a ha=>(h.ok a ha).fr hf h3,h.nb,fun k hk=>⟨ltL (h.nN k hk).1 hf.size,(h.nN k hk).2⟩⟩
theorem DPy.grown {N:NPr} {w w':World} {D base:Nat} {vm:Value} {nx:Int} {ms:List MadeD} (h:DPy N w D base vm nx ms) (hb:Below w.heap.size w w'):DPy N w' D base vm nx ms:=
 h.fr (Fr.of_below hb (fun _=>False)) (fun h=>h) (fun _ _ h=>h) (fun _ _ h=>h)
def payFinD (bls:List (List TxD)) (tag:Int) (cs:List CoinD) (ys:LII) (ch:Int):Sum Int (List CoinD×LII×Int):=
 if standsZ bls (idZ tag (cs.map CoinD.inD) ys)=true then .inl 4 else .inr (cs,ys,ch)
def payD (bls:List (List TxD)) (s:Int) (g:Nat) (L:List CoinD) (ms:List MadeD) (nx:Nat) (ys:LII) (r tag:Int):Sum Int (List CoinD×LII×Int):=
 if askedZ ys r tag≠0 then .inl (askedZ ys r tag)
 else if (chosenD r (candD ms r L) (targetZ ys r)).1=[] then .inl 9
 else if 0<(chosenD r (candD ms r L) (targetZ ys r)).2 then
  (if ckR (cellsR bls) s g nx<0 then .inl 10
   else payFinD bls tag (chosenD r (candD ms r L) (targetZ ys r)).1 (ys++[(Mk.adr s 1 (ckR (cellsR bls) s g nx),(chosenD r (candD ms r L) (targetZ ys r)).2)]) (ckR (cellsR bls) s g nx))
 else payFinD bls tag (chosenD r (candD ms r L) (targetZ ys r)).1 ys (-1)
def madeN (N:NPr) (vi vo vk vc:Value) (k:Nat):Prop:=N k\/vi.ownBlock=some k\/vo.ownBlock=some k\/vk.ownBlock=some k\/vc.ownBlock=some k
def DGo (N:NPr) (D base:Nat) (vm:Value) (nx:Int) (ms:List MadeD) (tag:Int) (cs:List CoinD) (zs:LII) (ch:Int) (a2 a3 a4:Value) (w w':World):Prop:=
 ∃ vm' ai ci ap cp ak ck ac cc,a2=.slice ai cs.length ci/\a3=.slice ap zs.length cp/\a4=.slice ak cs.length ck/\
  DPy (madeN N a2 a3 a4 (.slice ac cs.length cc)) w' D base vm' (if nx<=ch then ch+1 else nx) (ms++[⟨(ms.length:Nat),tag,ai,cs.length,ci,ap,zs.length,cp,ak,cs.length,ck,ch,ac,cs.length,cc,true,false,cs,zs⟩])/\
  PdOk w.heap.size a2 a3 a4 cs zs cs w'/\Fr (fun k=>k=D\/vm.ownBlock=some k) w w'/\(∀ k,vm'.ownBlock=some k->vm.ownBlock=some k\/w.heap.size<=k)/\(∀ k,(Value.slice ac cs.length cc).ownBlock=some k->w.heap.size<=k)/\(∀ o,o<5->w'.cell? ⟨D,o,none⟩=w.cell? ⟨D,o,none⟩)/\(∀ o,w'.frozen? ⟨D,o,none⟩=w.frozen? ⟨D,o,none⟩)
def DPayOk (N:NPr) (D base:Nat) (vm:Value) (bls:List (List TxD)) (s:Int) (g:Nat) (L:List CoinD) (ms:List MadeD) (nx:Nat) (ys:LII) (r tag:Int) (a0 a1 a2 a3 a4 a5:Value) (er:Int) (w w':World):Prop:=
 (∃ x,payD bls s g L ms nx ys r tag=.inl x/\er=x/\a0=.int .i64 0/\a1=.int .i64 0/\a2=.slice none 0 0/\a3=.slice none 0 0/\a4=.slice none 0 0/\a5=.int .i64 0/\Below w.heap.size w w')\/
 (∃ cs zs ch,payD bls s g L ms nx ys r tag=.inr (cs,zs,ch)/\er=0/\a0=.int .i64 (ms.length:Nat)/\a1=.int .i64 tag/\a5=.int .i64 ch/\DGo N D base vm nx ms tag cs zs ch a2 a3 a4 w w')
structure QM (w:World) (B T:Nat) (vc:Value) (cs:List CoinD) (num tag:Int) (vi vo vk:Value) (ch:Int) (is:List CoinD) (zs:LII) (ks:List CoinD) (wx:World):Prop where
 rb:VB wx B (.int .i64 0) (.int .i64 0) (.slice none 0 0) (.slice none 0 0) (.slice none 0 0) (.int .i64 0)
 tb:VB wx T (.int .i64 num) (.int .i64 tag) vi vo vk (.int .i64 ch)
 pd:PdOk (T+1) vi vo vk is zs ks wx
 oc:OwnRec CoinD.l 107 6 wx (B+1) vc cs
 bl:Below B w wx
 oT:∀ k,vc.ownBlock=some k->k<T
 lt:B<T
variable {w:World} {B T:Nat} {vc:Value} {cs:List CoinD} {num tag:Int} {vi vo vk:Value} {ch:Int} {is:List CoinD} {zs:LII} {ks:List CoinD} {wx:World}
theorem QM.Tl (u:QM w B T vc cs num tag vi vo vk ch is zs ks wx):T<wx.heap.size:=cell_lt u.tb.c0
theorem QM.grown {wy:World} (u:QM w B T vc cs num tag vi vo vk ch is zs ks wx) (hb:Below wx.heap.size wx wy):QM w B T vc cs num tag vi vo vk ch is zs ks wy:=
 ⟨u.rb.grown hb,u.tb.grown hb,u.pd.grown hb,u.oc.grown hb,u.bl.trans (hb.mono (by have:=u.Tl;have:=u.lt;omega)),u.oT,u.lt⟩
theorem QM.step {w1:World} {row:Option Nat} {i:Nat} {x:Value} {num' tag':Int} {vi' vo' vk':Value} {ch':Int} {is':List CoinD} {zs':LII} {ks':List CoinD} (u:QM w B T vc cs num tag vi vo vk ch is zs ks wx) (hg:wx.grownBy w1 row) (hrow:∀ k,row=some k->T+1<=k)
 (hpd:PdOk (T+1) vi' vo' vk' is' zs' ks' w1) (htb:VB w1 T (.int .i64 num) (.int .i64 tag) vi vo vk (.int .i64 ch)->VB (w1.setCell ⟨T,i,none⟩ x) T (.int .i64 num') (.int .i64 tag') vi' vo' vk' (.int .i64 ch')):QM w B T vc cs num' tag' vi' vo' vk' ch' is' zs' ks' (w1.setCell ⟨T,i,none⟩ x):=by
 have hlt:=u.lt
 have hTl:=u.Tl
 have hB:some B≠row:=fun e=>by have:=hrow B e.symm;omega
 have hT:some T≠row:=fun e=>by have:=hrow T e.symm;omega
 refine⟨(u.rb.gb hg hB).oth _ (by omega),htb (u.tb.gb hg hT),hpd.set _ _ _ (by omega),own_set (u.oc.gb hg (fun k hk e=>by have:=hrow k e.symm;have:=u.oT k hk;omega)) _ _ _ (fun e=>by have:=u.oT _ e;omega),?_,u.oT,u.lt⟩
 exact(u.bl.trans (gb_to_below hg (by omega) (fun k hk=>by have:=hrow k hk;omega))).setCell (p:=⟨T,i,none⟩) (by show B<=T;omega) _
theorem PdOk.pushI {base:Nat} {vi vo vk:Value} {cs:List CoinD} {ys:LII} {ks:List CoinD} {x:CoinD} {w w1:World} {g n c:Nat} (h:PdOk base vi vo vk cs ys ks w) (hown:OwnRec inC 115 3 w1 base (.slice (some ⟨g,0,none⟩) n c) (cs++[x])) (hg:w.grownBy w1 vi.ownBlock) (hl:vi.ownBlock=some g\/w.heap.size<=g):PdOk base (.slice (some ⟨g,0,none⟩) n c) vo vk (cs++[x]) ys ks w1:=by
 refine⟨hown,h.oo.gb hg (fun k hk e=>(h.n1 k e.symm).1 hk),h.ok.gb hg (fun k hk e=>(h.n1 k e.symm).2 hk),fun k hk=>?_,h.n2⟩
 simp[Value.ownBlock] at hk
 subst hk
 rcases hl with h1|h1
 ·exact h.n1 _ h1
 ·exact⟨fun e=>by have:=(h.oo.blk _ e).2;omega,fun e=>by have:=(h.ok.blk _ e).2;omega⟩
theorem QM.pushI {x:CoinD} {w1:World} {g n c:Nat} (u:QM w B T vc cs num tag vi vo vk ch is zs ks wx) (hown:OwnRec inC 115 3 w1 (T+1) (.slice (some ⟨g,0,none⟩) n c) (is++[x])) (hg:wx.grownBy w1 vi.ownBlock) (hl:vi.ownBlock=some g\/wx.heap.size<=g):QM w B T vc cs num tag (.slice (some ⟨g,0,none⟩) n c) vo vk ch (is++[x]) zs ks (w1.setCell ⟨T,2,none⟩ (.slice (some ⟨g,0,none⟩) n c)):=
 u.step hg (fun k hk=>(u.pd.oi.blk k hk).1) (u.pd.pushI hown hg hl) (fun h=>h.s2 _)
theorem QM.pushK {x:CoinD} {w1:World} {g n c:Nat} (u:QM w B T vc cs num tag vi vo vk ch is zs ks wx) (hown:OwnRec kC 117 2 w1 (T+1) (.slice (some ⟨g,0,none⟩) n c) (ks++[x])) (hg:wx.grownBy w1 vk.ownBlock) (hl:vk.ownBlock=some g\/wx.heap.size<=g):QM w B T vc cs num tag vi vo (.slice (some ⟨g,0,none⟩) n c) ch is zs (ks++[x]) (w1.setCell ⟨T,4,none⟩ (.slice (some ⟨g,0,none⟩) n c)):=
 u.step hg (fun k hk=>(u.pd.ok.blk k hk).1) (u.pd.pushK hown hg hl) (fun h=>h.s4 _)
theorem QM.pushO {x:Int×Int} {w1:World} {g n c:Nat} (u:QM w B T vc cs num tag vi vo vk ch is zs ks wx) (hown:OwnRec kV 93 2 w1 (T+1) (.slice (some ⟨g,0,none⟩) n c) (zs++[x])) (hg:wx.grownBy w1 vo.ownBlock) (hl:vo.ownBlock=some g\/wx.heap.size<=g):QM w B T vc cs num tag vi (.slice (some ⟨g,0,none⟩) n c) vk ch is (zs++[x]) ks (w1.setCell ⟨T,3,none⟩ (.slice (some ⟨g,0,none⟩) n c)):=
 u.step hg (fun k hk=>(u.pd.oo.blk k hk).1) (u.pd.pushO hown hg hl) (fun h=>h.s3 _)
theorem QM.setC (u:QM w B T vc cs num tag vi vo vk ch is zs ks wx) (x:Int):QM w B T vc cs num tag vi vo vk x is zs ks (wx.setCell ⟨T,5,none⟩ (.int .i64 x)):=
 u.step (row:=none) (gb_refl wx none) (fun k hk=>by cases hk) u.pd (fun h=>h.s5 _)
theorem QM.setTag (u:QM w B T vc cs num tag vi vo vk ch is zs ks wx) (x:Int):QM w B T vc cs num x vi vo vk ch is zs ks (wx.setCell ⟨T,1,none⟩ (.int .i64 x)):=
 u.step (row:=none) (gb_refl wx none) (fun k hk=>by cases hk) u.pd (fun h=>h.s1 _)
theorem QM.setO {n c g:Nat} (u:QM w B T vc cs num tag vi (.slice none 0 0) vk ch is [] ks wx) (hown:OwnRec kV 93 2 wx (T+1) (.slice (some ⟨g,0,none⟩) n c) zs) (h1:vi.ownBlock≠some g) (h2:vk.ownBlock≠some g):QM w B T vc cs num tag vi (.slice (some ⟨g,0,none⟩) n c) vk ch is zs ks (wx.setCell ⟨T,3,none⟩ (.slice (some ⟨g,0,none⟩) n c)):=
 u.step (row:=none) (gb_refl wx none) (fun k hk=>by cases hk) ⟨u.pd.oi,hown,u.pd.ok,fun k hk=>⟨fun e=>by simp[Value.ownBlock] at e;subst e;exact h1 hk,(u.pd.n1 k hk).2⟩,fun k hk e=>by simp[Value.ownBlock] at hk;subst hk;exact h2 e⟩ (fun h=>h.s3 _)
end
section
open Go.RowKit

theorem asked_zero {ys:LII} {r tag:Int} (h:askedZ ys r tag=0):(0<=r/\r<=1000)/\(1<=ys.length/\ys.length<=7)/\ys.all rOut=true:=by
 unfold askedZ at h
 split at h
 ·cases h
 ·rename_i h1
  split at h
  ·cases h
  ·rename_i h2
   have h3:rOuts ys=true:=by
    cases e:rOuts ys
    ·exact absurd (Or.inr e) h2
    ·rfl
   unfold rOuts at h3
   rw[Bool.and_eq_true,decide_eq_true_iff] at h3
   exact⟨by omega,⟨h3.1.1,by omega⟩,h3.2⟩
theorem seD_len (r:Int):∀ (t out:List CoinD) (left:Int) {o:List CoinD} {l:Int},seD r t out left=some (o,l)->o.length<=out.length+t.length:=by
 intro t
 induction t with
 |nil=>intro out left o l h;rw[seD] at h;cases h
 |cons c t ih=>
  intro out left o l h
  rw[seD] at h
  split at h
  ·injection h with h
   injection h with h _
   subst h
   simp
  ·have:=ih _ _ h
   simp at this ⊢
   omega
theorem chosenD_len (r:Int) (cs:List CoinD) (want:Int):(chosenD r cs want).1.length<=10:=by
 unfold chosenD
 split
 ·unfold memD
  have:=range_filter_len (fun i=>bitN (bestD r cs (min 8 cs.length) want (want+2*r+10-1)) (min 8 cs.length) i) (fun i=>cs.getD i dN) (min 8 cs.length)
  simp only at this ⊢
  omega
 ·split
  ·simp
  ·rename_i h
   have:=seD_len r _ _ _ h
   rw[List.length_take] at this
   simp at this ⊢
   omega
structure QF (N:NPr) (w:World) (D base:Nat) (vm:Value) (nx:Int) (ms:List MadeD) (B T:Nat) (vc:Value) (cs:List CoinD) (num tag:Int) (vi vo vk:Value) (ch:Int) (zs:LII) (wx:World):Prop where
 dp:DPy N wx D base vm nx ms
 rb:VB wx B (.int .i64 0) (.int .i64 0) (.slice none 0 0) (.slice none 0 0) (.slice none 0 0) (.int .i64 0)
 tb:VB wx T (.int .i64 num) (.int .i64 tag) vi vo vk (.int .i64 ch)
 pd:PdOk (T+1) vi vo vk cs zs cs wx
 oc:OwnRec CoinD.l 107 6 wx (B+1) vc cs
 fr:Fr (fun k=>k=D\/vm.ownBlock=some k) w wx
 lo:∀ k,(k=D\/vm.ownBlock=some k\/N k)->k<B
 oT:∀ k,vc.ownBlock=some k->k<T
 lt:B<T
 ce:∀ o,o<5->wx.cell? ⟨D,o,none⟩=w.cell? ⟨D,o,none⟩
 fe:∀ o,wx.frozen? ⟨D,o,none⟩=w.frozen? ⟨D,o,none⟩
 wB:w.heap.size=B
variable {N:NPr} {w:World} {D base:Nat} {vm:Value} {nx:Int} {ms:List MadeD} {B T:Nat} {vc:Value} {cs:List CoinD} {num tag:Int} {vi vo vk:Value} {ch:Int} {zs:LII} {wx:World}
theorem QF.grown {wy:World} (u:QF N w D base vm nx ms B T vc cs num tag vi vo vk ch zs wx) (hb:Below wx.heap.size wx wy):QF N w D base vm nx ms B T vc cs num tag vi vo vk ch zs wy:=
 have hDl:D<wx.heap.size:=cell_lt u.dp.c5
 ⟨u.dp.grown hb,u.rb.grown hb,u.tb.grown hb,u.pd.grown hb,u.oc.grown hb,u.fr.trans (Fr.of_below hb _),u.lo,u.oT,u.lt,fun o ho=>(hb.cell (p:=⟨D,o,none⟩) hDl).trans (u.ce o ho),fun o=>(hb.frozen (p:=⟨D,o,none⟩) hDl).trans (u.fe o),u.wB⟩
theorem QM.toF (u:QM w B T vc cs num tag vi vo vk ch cs zs cs wx) (hd:DPy N w D base vm nx ms) (hwB:w.heap.size=B) (hlo:∀ k,vm.ownBlock=some k->k<B):QF N w D base vm nx ms B T vc cs num tag vi vo vk ch zs wx:=by
 have hb:=u.bl
 rw[<-hwB] at hb
 have hDl:D<w.heap.size:=cell_lt hd.c5
 exact⟨hd.grown hb,u.rb,u.tb,u.pd,u.oc,Fr.of_below hb _,fun k hk=>by
  rcases hk with e|e|e
  ·omega
  ·exact hlo k e
  ·have:=(hd.nN k e).1;omega,u.oT,u.lt,fun o ho=>hb.cell (p:=⟨D,o,none⟩) hDl,fun o=>hb.frozen (p:=⟨D,o,none⟩) hDl,hwB⟩
theorem QF.setG (u:QF N w D base vm nx ms B T vc cs num tag vi vo vk ch zs wx) (x:Int):QF N w D base vm (x+1) ms B T vc cs num tag vi vo vk ch zs (wx.setCell ⟨D,6,none⟩ (.int .i64 x)):=by
 have hf:Fr (fun k=>k=D) wx (wx.setCell ⟨D,6,none⟩ (.int .i64 x)):=(Fr.refl _ wx).set D 6 _ (fun _=>rfl)
 have hlt:=u.lt
 have hD:=u.lo D (Or.inl rfl)
 have hdp:=u.dp
 refine⟨⟨so hdp.c5 (by omega),?_,by rw[World.frozen?_setCell];exact hdp.f5,by rw[World.frozen?_setCell];exact hdp.f6,hf.own hdp.ow (fun k hk e=>by have:=(hdp.ow.blk k hk).1;have:=hdp.nb;omega),fun a ha=>(hdp.ok a ha).fr hf (fun k hk=>(hdp.nN k hk).2.1),hdp.nb,fun k hk=>⟨by simpa using (hdp.nN k hk).1,(hdp.nN k hk).2⟩⟩,u.rb.fr hf (by omega),u.tb.fr hf (by omega),u.pd.fr hf (fun k hk=>by omega),hf.own u.oc (fun k hk e=>by have:=(u.oc.blk k hk).1;omega),u.fr.trans (hf.weak (fun _ _ e=>Or.inl e)),u.lo,u.oT,u.lt,fun o ho=>(cell_oth _ _ _ _ _ (by omega)).trans (u.ce o ho),fun o=>by rw[World.frozen?_setCell];exact u.fe o,u.wB⟩
 rw[show x+1-1=x by omega]
 exact ss hdp.c6
theorem QF.fin {ai ap ak ac:OAd} {ci cp ck cc:Nat} {w1:World} {gl cl:Nat} (u:QF N w D base vm nx ms B T (.slice ac cs.length cc) cs num tag (.slice ai cs.length ci) (.slice ap zs.length cp) (.slice ak cs.length ck) ch zs wx) (h10:cs.length<=10) (h8:zs.length<=8) (hnum:num=(ms.length:Nat))
 (hown:OwnRec MadeD.v 187 9 w1 base (.slice (some ⟨gl,0,none⟩) (ms.length+1) cl) (ms++[⟨num,tag,ai,cs.length,ci,ap,zs.length,cp,ak,cs.length,ck,ch,ac,cs.length,cc,true,false,cs,zs⟩])) (hg:wx.grownBy w1 vm.ownBlock) (hl:vm.ownBlock=some gl\/wx.heap.size<=gl) {w2:World} (hw2:Fr (fun k=>k=B) (w1.setCell ⟨D,5,none⟩ (.slice (some ⟨gl,0,none⟩) (ms.length+1) cl)) w2):
 ∀ nx0:Int,nx=(if nx0<=ch then ch+1 else nx0)->DGo N D base vm nx0 ms tag cs zs ch (.slice ai cs.length ci) (.slice ap zs.length cp) (.slice ak cs.length ck) w w2:=by
 intro nx0 hn0
 subst hnum
 have hlt:=u.lt
 have hD:=u.lo D (Or.inl rfl)
 have hdp:=u.dp
 have hwB:=u.wB
 have hDl:D<wx.heap.size:=cell_lt hdp.c5
 have hxs:wx.heap.size<=w1.heap.size:=hg.size
 have hvB:∀ k,vm.ownBlock=some k->k<B:=fun k hk=>u.lo k (Or.inr (Or.inl hk))
 have hBx:B<wx.heap.size:=cell_lt u.rb.c0
 have hf1:Fr (fun k=>vm.ownBlock=some k) wx w1:=Fr.of_gb hg (fun _ hk _=>hk)
 have hf2:Fr (fun k=>k=D) w1 (w1.setCell ⟨D,5,none⟩ (.slice (some ⟨gl,0,none⟩) (ms.length+1) cl)):=(Fr.refl _ w1).set D 5 _ (fun _=>rfl)
 have hf12:Fr (fun k=>k=D\/vm.ownBlock=some k) wx (w1.setCell ⟨D,5,none⟩ (.slice (some ⟨gl,0,none⟩) (ms.length+1) cl)):=(hf1.weak (fun _ _ e=>Or.inr e)).trans (hf2.weak (fun _ _ e=>Or.inl e))
 have hDv:vm.ownBlock≠some D:=fun e=>by have:=(hdp.ow.blk D e).1;have:=hdp.nb;omega
 have hglB:vm.ownBlock=some gl\/wx.heap.size<=gl:=hl
 have hglD:gl≠D:=by
  rcases hl with e|e
  ·intro e2;subst e2;exact hDv e
  ·omega
 have hglB':gl≠B:=by
  rcases hl with e|e
  ·have:=hvB _ e;omega
  ·omega
 have hi:=u.pd.oi
 have ho:=u.pd.oo
 have hk:=u.pd.ok
 have hnew:∀ k,((Value.slice ai cs.length ci).ownBlock=some k\/(Value.slice ap zs.length cp).ownBlock=some k\/(Value.slice ak cs.length ck).ownBlock=some k\/(Value.slice ac cs.length cc).ownBlock=some k)->B<k/\k<wx.heap.size:=fun k e=>by
  rcases e with e|e|e|e
  ·have:=hi.blk k e;omega
  ·have:=ho.blk k e;omega
  ·have:=hk.blk k e;omega
  ·have:=u.oc.blk k e;omega
 have hE:∀ k,B<=k->¬(k=D\/vm.ownBlock=some k):=fun k hk e=>by
  rcases e with e|e
  ·omega
  ·have:=hvB k e;omega
 have hpd2:PdOk (T+1) (.slice ai cs.length ci) (.slice ap zs.length cp) (.slice ak cs.length ck) cs zs cs w2:=(u.pd.fr hf12 (fun k hk=>hE k (by omega))).fr hw2 (fun k hk=>by omega)
 have hoc2:OwnRec CoinD.l 107 6 w2 (B+1) (.slice ac cs.length cc) cs:=hw2.own (hf12.own u.oc (fun k hk=>hE k (by have:=(u.oc.blk k hk).1;omega))) (fun k hk e=>by have:=(u.oc.blk k hk).1;omega)
 have hfr:Fr (fun k=>k=D\/vm.ownBlock=some k) w w2:=Fr.trans_new2 (u.fr.trans hf12) hw2 (fun q hq=>by omega)
 have hsz:wx.heap.size<=w2.heap.size:=leT hf12.size hw2.size
 refine⟨.slice (some ⟨gl,0,none⟩) (ms.length+1) cl,ai,ci,ap,cp,ak,ck,ac,cc,rfl,rfl,rfl,?_,hpd2.lower (by omega),hfr,fun k e=>?_,fun k e=>?_,fun o ho=>?_,fun o=>?_⟩
 ·rw[<-hn0]
  have hnD:∀ k,N k->k<B:=fun k hk=>u.lo k (Or.inr (Or.inr hk))
  refine⟨hw2.cell (ss (World.cell?_of_block (hg.block D hDl (fun e=>hDv e.symm)) |>.trans hdp.c5)) (by omega),hw2.cell (so (World.cell?_of_block (hg.block D hDl (fun e=>hDv e.symm)) |>.trans hdp.c6) (by omega)) (by omega),?_,?_,hw2.own (own_set hown _ _ _ (fun e=>by simp[Value.ownBlock] at e;exact hglD e)) (fun k hk e=>by simp[Value.ownBlock] at hk;omega),fun a ha=>?_,hdp.nb,fun k hk=>?_⟩
  ·rw[hw2.frozen (b:=D) (o:=5) (by simp;omega) (by omega),World.frozen?_setCell,World.frozen?_of_block (hg.block D hDl (fun e=>hDv e.symm))]
   exact hdp.f5
  ·rw[hw2.frozen (b:=D) (o:=6) (by simp;omega) (by omega),World.frozen?_setCell,World.frozen?_of_block (hg.block D hDl (fun e=>hDv e.symm))]
   exact hdp.f6
  ·rcases List.mem_append.1 ha with ha|ha
   ·exact(((hdp.ok a ha).fr hf12 (fun k hk e=>by
     rcases e with e|e
     ·exact(hdp.nN k hk).2.1 e
     ·exact(hdp.nN k hk).2.2 e)).fr hw2 (fun k hk=>by have:=hnD k hk;omega)).more (fun k hk=>Or.inl hk)
   ·rw[List.mem_singleton] at ha
    subst ha
    refine⟨own_atS inC3 hpd2.oi,own_atS kv2 hpd2.oo,own_atS kC2 hpd2.ok,own_atS coin6 hoc2,rfl,rfl,rfl,rfl,h10,h8,fun _ p hp=>?_,fun _ p hp=>?_⟩
    ·simp only at hp
     rcases hp with e|e|e
     ·exact Or.inr (Or.inl (by rw[e];rfl))
     ·exact Or.inr (Or.inr (Or.inr (Or.inl (by rw[e];rfl))))
     ·exact Or.inr (Or.inr (Or.inr (Or.inr (by rw[e];rfl))))
    ·simp only at hp
     exact Or.inr (Or.inr (Or.inl (by rw[hp];rfl)))
  ·rcases hk with hk|hk
   ·have h1:=hdp.nN k hk
    refine⟨by omega,h1.2.1,fun e=>?_⟩
    simp[Value.ownBlock] at e
    subst e
    rcases hl with e|e
    ·exact h1.2.2 e
    ·omega
   ·have h1:=hnew k hk
    refine⟨by omega,by omega,fun e=>?_⟩
    simp[Value.ownBlock] at e
    subst e
    rcases hl with e|e
    ·have:=hvB _ e;omega
    ·omega
 ·simp[Value.ownBlock] at e
  subst e
  rcases hl with e|e
  ·exact Or.inl e
  ·exact Or.inr (by omega)
 ·have:=hnew k (Or.inr (Or.inr (Or.inr e)))
  omega
 ·rw[World.cell?_of_block (hw2.block D (by simp;omega) (by omega)),cell_oth _ _ _ _ _ (by omega),World.cell?_of_block (hg.block D hDl (fun e=>hDv e.symm))]
  exact u.ce o ho
 ·rw[World.frozen?_of_block (hw2.block D (by simp;omega) (by omega)),World.frozen?_setCell,World.frozen?_of_block (hg.block D hDl (fun e=>hDv e.symm))]
  exact u.fe o
end
section
open Go.RowKit
variable {N:NPr} {w w1:World} {b o base:Nat} {vl vs v:Value} {md nx:Int} {ps qs:List PayD} {ks:LII}
def leftZ (ps:List PayD) (k:Int):List PayD:=ps.filter fun p=>p.num !=k
def AbOk (N:NPr) (b o base:Nat) (vs:Value) (md nx:Int) (ps:List PayD) (ks:LII) (k:Int) (er:Int) (w w':World):Prop:=
 ((leftZ ps k).length=ps.length/\er=11/\Below w.heap.size w w')\/((leftZ ps k).length≠ps.length/\er=0/\∃ vl',LsAt N w' b o base vl' vs md nx (leftZ ps k) ks/\Fr (fun q=>q=b) w w'/\(∀ q,vl'.ownBlock=some q->w.heap.size<=q)/\(∀ j,j≠o->w'.cell? ⟨b,j,none⟩=w.cell? ⟨b,j,none⟩))
theorem LsAt.swap (h:LsAt N w b o base vl vs md nx ps ks) (hb:Below w.heap.size w w1) (hbs:base<=w.heap.size) (hown:OwnRec PayD.v 159 5 w1 w.heap.size v qs) (hq:∀ p∈qs,p∈ps):LsAt N (w1.setCell ⟨b,o,none⟩ v) b o base v vs md nx qs ks:=by
 have h1:=h.grown hb
 have hnb:=h.nb
 have hbl:b<w.heap.size:=cell_lt h.c0
 have hf:Fr (fun k=>k=b) w1 (w1.setCell ⟨b,o,none⟩ v):=(Fr.refl _ w1).set b o _ (fun _=>rfl)
 have hvb:∀ q,v.ownBlock=some q->w.heap.size<=q:=fun q hq=>(hown.blk q hq).1
 refine⟨ss h1.c0,so h1.c1 (by omega),so h1.c2 (by omega),so h1.c3 (by omega),fun j=>by rw[World.frozen?_setCell];exact h1.fz j,owns_lower (own_set hown _ _ _ (fun e=>by have:=hvb _ e;omega)) hbs,own_set h1.os _ _ _ (fun e=>by have:=(h1.os.blk _ e).1;omega),fun p hp=>(h1.ok p (hq p hp)).fr hf (fun k hk=>(h1.nN k hk).2.1),h1.nb,fun k hk e=>?_,fun k hk=>⟨by simpa using (h1.nN k hk).1,(h1.nN k hk).2.1,fun e=>?_,(h1.nN k hk).2.2.2⟩⟩
 ·have:=hvb k hk
  have:=(h.os.blk k e).2
  omega
 ·have:=hvb k e
  have:=(h.nN k hk).1
  omega
theorem lAbandon_any (N:NPr) (b o base:Nat) (vl vs:Value) (md nx:Int) (ps:List PayD) (ks:LII) (k:Int) (w:World) (hL:LsAt N w b o base vl vs md nx ps ks) (hbs:base<=w.heap.size) (hpl:ps.length<=1000000000000):
 Calls Tryz.prog 48 #[.pointer (some ⟨b,o,none⟩),.int .i64 k] w fun e w'=>∃ er,e=.returned (.int .i64 er)/\AbOk N b o base vs md nx ps ks k er w w':=by
 obtain⟨ao,c,ev,hat⟩:=OwnRec.at pay5 hL.ol
 subst ev
 have HL:=hiD hL
 have HA:=hiD hat
 have c0:=hL.c0
 have cf:=hL.fz o
 have hbl:b<w.heap.size:=cell_lt c0
 clear hL hat
 generalize hn:ps.length=n at *
 have HN:=hiD hn
 clear hn
 generalize hB:w.heap.size=B at *
 have HB:=hiD hB
 clear hB
 go_enter Tryz.func48,Tryz.ntmps48
 go_wp2
 go_loopw [5,13] (fun v i wr=>∃ j:Nat,j<=n/\i=.int .i64 j/\OwnRec PayD.v 159 5 wr B v (leftZ (ps.take j) k)/\Below B w wr) (fun _ i _=>n-(intOf i).toNat)
 case atStart=>exact⟨0,Nat.zero_le _,rfl,OwnRec.nil _ _ _ _ _,Below.refl _ _⟩
 case round=>
  obtain⟨j,hj,rfl,hown,hbl2⟩:=hrel
  have hsz:=hbl2.size
  rw[HB.out] at hsz
  have d0:=(hbl2.cell (p:=⟨b,o,none⟩) hbl).trans c0
  have df:=(hbl2.frozen (p:=⟨b,o,none⟩) hbl).trans cf
  by_cases hlt:j<n
  ·rcases HA.out with hnil|⟨gg,off,rfl,hrow⟩
   ·have:=HN.out;rw[hnil] at this;simp at this;omega
   obtain⟨e0,e1,e2,e3,e4⟩:=payCells (hrow.grown (by rw[HB.out];exact hbl2)) j (by rw[HN.out];exact hlt)
   have HS:Hid _:=filter_snoc (fun p:PayD=>p.num !=k) ps dP j (by rw[HN.out];exact hlt)
   have HLN:Hid ((leftZ (ps.take j) k).length<=1000000000000):=by show _<=_;have:=List.length_filter_le (fun p:PayD=>p.num !=k) (ps.take j);rw[List.length_take] at this;unfold leftZ;omega
   have HLE:Hid (leftZ (ps.take j) k=(ps.take j).filter fun p=>p.num !=k):=rfl
   have HO:=hiD hown
   have HLS:Hid (leftZ (ps.take (j+1)) k=(ps.take (j+1)).filter fun p=>p.num !=k):=rfl
   clear hrow hown
   rw[<-HLE.out] at HS
   generalize ps.getD j dP=y at *
   generalize leftZ (ps.take j) k=acc at *
   obtain⟨y0,y1,y2,y3,y4,y5,y6,y7,y8,y9,y10⟩:=y
   simp only at e0 e1 e2 e3 e4
   cases hk:(y0 !=k)
   ·have HR:Hid (leftZ (ps.take (j+1)) k=acc):=by show _=_;rw[HLS.out,HS.out,hk,if_neg (by simp),List.append_nil]
    go_wp2
    go_roundw
    case rel=>exact⟨j+1,by omega,by go_num,by rw[HR.out];exact HO.out.alloc _,hbl2.alloc (by omega) _⟩
    case measure=>simp[intOf];omega
   ·have HR:Hid (leftZ (ps.take (j+1)) k=acc++[⟨y0,y1,y2,y3,y4,y5,y6,y7,y8,y9,y10⟩]):=by show _=_;rw[HLS.out,HS.out,hk,if_pos rfl]
    have hO1:=HO.out.alloc (.cells #[.int .i64 y0,.slice y1 y2 y3,.slice y4 y5 y6,.int .i64 y7,.bool y8] 159)
    have HO1:=hiD hO1
    have hb1:=hbl2.alloc (show B<=wr.heap.size by omega) (.cells #[.int .i64 y0,.slice y1 y2 y3,.slice y4 y5 y6,.int .i64 y7,.bool y8] 159)
    have h5:=P5.new wr (.int .i64 y0) (.slice y1 y2 y3) (.slice y4 y5 y6) (.int .i64 y7) (.bool y8) 159
    obtain⟨z0,z1,z2,z3,z4,_⟩:=h5
    clear hO1
    go_upto_region 5 with fail
    have hz1:(wr.alloc (.cells #[.int .i64 y0,.slice y1 y2 y3,.slice y4 y5 y6,.int .i64 y7,.bool y8] 159)).heap.size=wr.heap.size+1:=by simp
    have hBz:B<=(wr.alloc (.cells #[.int .i64 y0,.slice y1 y2 y3,.slice y4 y5 y6,.int .i64 y7,.bool y8] 159)).heap.size:=by omega
    clear hz1 e0 e1 e2 e3 e4
    generalize wr.alloc (.cells #[.int .i64 y0,.slice y1 y2 y3,.slice y4 y5 y6,.int .i64 y7,.bool y8] 159)=w1 at *
    generalize wr.heap.size=X at *
    go_wp2_with (at_builtin;refine wpList_appR 98 72 _ Tryz.underlying98 info159 rfl (by decide) pay5 pay_one (w1.alloc (.cells #[.int .i64 y0,.slice y1 y2 y3,.slice y4 y5 y6,.int .i64 y7,.bool y8] 159)) rfl _ _ rfl B w1.heap.size 1 u5 acc ⟨y0,y1,y2,y3,y4,y5,y6,y7,y8,y9,y10⟩ (by rfl) (by rfl) (HO1.out.alloc _) (vrow_new _ _ _) (by simp;omega) (by have:=HLN.out;unfold maxLen;omega) (by have:=HLN.out;omega) ?_;intro g' cap w5 hown5 hg5 _ _)
    go_roundw
    case rel=>exact⟨j+1,by omega,by go_num,by rw[HR.out];exact hown5,hb1.trans (gb_to_below (gb_trans (gb_alloc _ _ _) hg5) (by omega) (fun r hr=>(HO1.out.blk r hr).1))⟩
    case measure=>simp[intOf];omega
  ·have HE:Hid (ps.take j=ps):=by show _=_;rw[List.take_of_length_le (by rw[HN.out];omega)]
   rw[HE.out] at hown
   obtain⟨a2,c2,e2,_⟩:=OwnRec.at pay5 hown
   subst e2
   have HO:=hiD hown
   have HBW:=hiD hbl2
   have HQ:Hid (∀ p∈leftZ ps k,p∈ps):=fun p hp=>(List.mem_filter.1 hp).1
   have HAB:Hid (∀ er w',AbOk N b o base vs md nx ps ks k er w w'↔(((leftZ ps k).length=n/\er=11/\Below B w w')\/((leftZ ps k).length≠n/\er=0/\∃ vl',LsAt N w' b o base vl' vs md nx (leftZ ps k) ks/\Fr (fun q=>q=b) w w'/\(∀ q,vl'.ownBlock=some q->B<=q)/\(∀ j,j≠o->w'.cell? ⟨b,j,none⟩=w.cell? ⟨b,j,none⟩)))):=fun er w'=>by unfold AbOk;rw[HN.out,HB.out]
   clear hown
   generalize leftZ ps k=qs at *
   generalize hql:qs.length=ql at *
   by_cases hq:ql=n
   ·subst hq
    go_wp2
    go_ret
    exact⟨11,rfl,(HAB _ _).2 (Or.inl ⟨by first|rfl|trivial,rfl,HBW⟩)⟩
   ·have hqI:((ql:Int)== (n:Int))=false:=by rw[beq_eq_false_iff_ne];omega
    have HF:Hid (LsAt N (wr.setCell ⟨b,o,none⟩ (.slice a2 ql c2)) b o base (.slice a2 ql c2) vs md nx qs ks):=HL.out.swap (by rw[HB.out];exact HBW) (by rw[HB.out];exact hbs) (by rw[HB.out];exact HO) HQ
    have HFr:Hid (Fr (fun q=>q=b) w (wr.setCell ⟨b,o,none⟩ (.slice a2 ql c2))):=(Fr.of_below (by rw[HB.out];exact HBW) _).set b o _ (fun _=>rfl)
    have HCJ:Hid (∀ j,j≠o->(wr.setCell ⟨b,o,none⟩ (.slice a2 ql c2)).cell? ⟨b,j,none⟩=w.cell? ⟨b,j,none⟩):=fun j hj=>by
     rw[cell_oth _ _ _ _ _ (fun e=>hj e.symm)]
     exact HBW.out.cell (p:=⟨b,j,none⟩) hbl
    go_wp2
    go_ret
    exact⟨0,rfl,(HAB _ _).2 (Or.inr ⟨hq,rfl,_,HF,HFr,fun q hq2=>(HO.out.blk q hq2).1,HCJ⟩)⟩
end
end Go.Proofs.YtffgpepngcnjeabGreat
