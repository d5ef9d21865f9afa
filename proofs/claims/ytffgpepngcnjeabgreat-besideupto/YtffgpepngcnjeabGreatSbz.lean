import Derived.Test.YtffgpepngcnjeabGreatSby
import Derived.Test.YtffgpepngcnjeabGreatSbx
import Derived.Test.YtffgpepngcnjeabGreatSbw
namespace Go.Proofs.YtffgpepngcnjeabGreat
set_option maxRecDepth 100000
set_option maxHeartbeats 1000000
section
open Go.RowKit

theorem all_play (s:Int) (g:Nat) (hf:fitZ s (g:Int)=true):PlayOk 5 6 9 (PyInv s g) 1048576:=by
 refine⟨?_,?_,?_,?_⟩
 ·rintro k G B w w' ⟨col,D,Dr,a,b,nx,h⟩ hb
  exact⟨col,D,Dr,a,b,nx,h.grown hb⟩
 ·rintro k G B w ⟨col,D,Dr,a,b,nx,h⟩
  exact⟨col,D,Dr,a,b,nx,h.more⟩
 ·rintro k G B w ⟨col,D,Dr,a,b,nx,h⟩
  exact Nat.le_of_lt (h.lt (by rw[h.pg.k1];omega))
 ·rintro k G B w o hk9 ⟨col,D,Dr,a,b,nx,h⟩ ho hk
  refine(stepAll_any 0 s g _ k col G B D Dr a b nx o w h ho hf hk9).mono ?_
  rintro e w' ⟨rfl,col',a',b',nx',_,h2,h3⟩
  refine⟨rfl,⟨col',D,Dr,a',b',nx',h2⟩,h3.weak (fun j _ e=>?_)⟩
  exact Classical.byContradiction fun hn=>by have:=(h.nn j (by omega)).1;omega
theorem all_look (s:Int) (g:Nat):LookOk (PyInv s g) 1048576:=by
 rintro k G B w hk ⟨col,D,Dr,a,b,nx,h⟩
 exact⟨Dr,h.gm 2 (by simp),looks_any col 0 Dr (13*k) w h.dr (by omega)⟩
theorem all_law (s g:Int) (so:OAd) (n c:Nat) (ops:List OpD) (w:World) (hs:Scr w.heap.size w so ops) (hn:ops.length=n) (hm:n<=1048576):
 Calls Tryz.prog 7 #[.int .i64 s,.int .i64 g,.slice so n c] w fun e w'=>e=.returned (.bool true)/\Below w.heap.size w w':=by
 cases hf:fitZ s g
 ·go_enter Tryz.func7,Tryz.ntmps7
  go_wp2_with fail
  refine(playsL_no s g 5 1 5 6 9 hf (.slice so n c) _).mono ?_
  rintro e w1 ⟨rfl,hb⟩
  go_wp2
  go_ret
  exact⟨rfl,hb⟩
 ·obtain⟨h1,h2,h3⟩:=fitZ_yes hf
  obtain⟨k,rfl⟩:∃ k:Nat,g=(k:Int):=⟨g.toNat,by omega⟩
  have HS:=hiD hs
  have HN:=hiD hn
  clear hs hn
  go_enter Tryz.func7,Tryz.ntmps7
  go_wp2_with fail
  refine(playsL_yes s (k:Int) 5 1 5 6 9 (PyInv s k) (all_play s k hf) (all_look s k) (pays_begin s k hf) so n c ops _ HS HN (by omega)).mono ?_
  rintro e w1 ⟨rfl,hb⟩
  go_wp2
  go_ret
  exact⟨rfl,hb⟩
end
end Go.Proofs.YtffgpepngcnjeabGreat
