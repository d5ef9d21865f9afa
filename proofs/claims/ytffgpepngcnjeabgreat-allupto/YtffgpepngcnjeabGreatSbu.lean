import Derived.Test.YtffgpepngcnjeabGreatSbk
namespace Go.Proofs.YtffgpepngcnjeabGreat
section
open Go.RowKit
variable {col:NtN} {z Dr q a n cv cw k:Nat} {w:World} {av aw:OAd} {cs:List CbD} {ns:List Int}
structure LsR (a:Nat) (w:World) (Dr:Nat) (av:OAd) (n cv:Nat) (aw:OAd) (cw:Nat) (cs:List CbD) (ns:List Int):Prop where
 ca:w.cell? ⟨Dr,a,none⟩=some (.slice av n cv)
 cb:w.cell? ⟨Dr,a+5,none⟩=some (.slice aw n cw)
 lc:cs.length=n
 ll:ns.length=n
 rc:RecAt CbD.v w av cs
 rn:RecAt iV w aw ns
 kp:∀ i,i<n->KeptAt (patOf a) w (cs.getD i dCb) (ns.getD i 0)
theorem DrA.ls (h:DrA col z w Dr q) (h1:1<=a) (h5:a<=5):∃ av n cv aw cw cs ns,LsR a w Dr av n cv aw cw cs ns/\n<=q:=by
 obtain⟨V,W,cs,ns,hk⟩:=h.kn a h1 h5
 obtain⟨av,cv,e1,r1⟩:=OwnRec.at cb1 hk.oc
 obtain⟨aw,cw,e2,r2⟩:=OwnRec.at iv1 hk.on
 have ca:=hk.ca
 have cb:=hk.cb
 have hl:=hk.ln
 rw[e1] at ca
 rw[e2,<-hl] at cb
 exact⟨av,cs.length,cv,aw,cw,cs,ns,⟨ca,cb,rfl,hl.symm,r1,r2,hk.kp⟩,by rw[hl];exact hk.lq⟩
theorem LsR.one (h:LsR a w Dr av n cv aw cw cs ns) (hk:k<n):
 ∃ gv ov gw ow ao m c y,av=some ⟨gv,ov,none⟩/\aw=some ⟨gw,ow,none⟩/\w.cell? ⟨gv,ov+k*1,none⟩=some (.slice ao m c)/\w.cell? ⟨gw,ow+k*1,none⟩=some (.int .i64 y)/\(m=0\/(m<=9223372036854775807/\∃ b,ao=some ⟨b,0,none⟩/\VRow w b 0 ((List.replicate m y).flatMap (patOf a)))):=by
 have h1:k<cs.length:=by rw[h.lc];exact hk
 have h2:k<ns.length:=by rw[h.ll];exact hk
 rcases h.rc with e|⟨gv,ov,e1,hr⟩
 ·rw[e] at h1;simp at h1
 rcases h.rn with e|⟨gw,ow,e2,hs⟩
 ·rw[e] at h2;simp at h2
 have c1:=rcell cb1 dCb hr k h1 0 (by omega)
 have c2:=rcell iv1 0 hs k h2 0 (by omega)
 exact⟨gv,ov,gw,ow,(cs.getD k dCb).ao,(cs.getD k dCb).n,(cs.getD k dCb).c,ns.getD k 0,e1,e2,c1,c2,h.kp k hk⟩
end
end Go.Proofs.YtffgpepngcnjeabGreat
