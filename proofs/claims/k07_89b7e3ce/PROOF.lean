import PyProof.Rows.All
import Wide.All
import OpenK.AllK
import Wide.FinOn
import HandS.ForMost
import HandS.Evl
import HandS.IsInst
import HandS.Style
import KE.KDictZip
import KE.KDictList
import HandS.DictComp
import KE.KDictKeyed
import HandS.SetFor
import HandS.Strs
import HandS.Zip
import HandS.ReplaceLit
import HandS.TryOnly
import HandS.Flt
import HandS.Deep
import HandS.NoneIn
import HandS.ReplaceList
import PyProof.Rows.StrRev
import HandS.SortRule
import HandS.TupSets
import PySem.Challenge.RW_doorwalk_k07_whole_numbers
set_option Elab.async false
set_option linter.all false
set_option maxRecDepth 100000
set_option maxHeartbeats 4000000
/-! Values by their data: what an expression is worth as a whole, wherever it lies. -/
namespace Dt
open PySem L2 Evl

section
variable {K : PySem.W.Frag} {H H' : Hp}

mutual
theorem dpUp (e : Ex H H') : ∀ {v : V} {d : PyData}, Dp K H v d → Dp K H' v d
  | _, _, .non => .non
  | _, _, .bl b => .bl b
  | _, _, .int i => .int i
  | _, _, .str x => .str x
  | _, _, .lst s r => .lst (ex_l e s) (dpsUp e r)
  | _, _, .tup s r => .tup (ex_t e s) (dpsUp e r)
theorem dpsUp (e : Ex H H') : ∀ {vs : List V} {ds : List PyData}, DpAll K H vs ds → DpAll K H' vs ds
  | _, _, .nil => .nil
  | _, _, .cons a b => .cons (dpUp e a) (dpsUp e b)
end

theorem dpsLen : ∀ {vs : List V} {ds : List PyData}, DpAll K H vs ds → vs.length = ds.length
  | _, _, .nil => rfl
  | _, _, .cons _ b => by rw [List.length_cons, List.length_cons, dpsLen b]
theorem dpsGet : ∀ {vs : List V} {ds : List PyData} {i : Nat} {v : V}, DpAll K H vs ds → vs[i]? = some v → ∃ d, ds[i]? = some d ∧ Dp K H v d
  | _, _, _, _, .nil, h => by simp at h
  | _, _, 0, _, .cons a _, h => by simp at h; subst h; exact ⟨_, rfl, a⟩
  | _, _, i + 1, _, .cons _ b, h => by simpa using dpsGet b (i := i) (by simpa using h)
theorem dpsAt : ∀ {vs : List V} {ds : List PyData} {i : Nat} {d : PyData}, DpAll K H vs ds → ds[i]? = some d → ∃ v, vs[i]? = some v ∧ Dp K H v d
  | _, _, _, _, .nil, h => by simp at h
  | _, _, 0, _, .cons a _, h => by simp at h; subst h; exact ⟨_, rfl, a⟩
  | _, _, i + 1, _, .cons _ b, h => by simpa using dpsAt b (i := i) (by simpa using h)
theorem dpsApp : ∀ {vs ws : List V} {ds es : List PyData}, DpAll K H vs ds → DpAll K H ws es → DpAll K H (vs ++ ws) (ds ++ es)
  | _, _, _, _, .nil, h => h
  | _, _, _, _, .cons a b, h => .cons a (dpsApp b h)
theorem dpsSnoc {vs : List V} {ds : List PyData} {v : V} {d : PyData} (h : DpAll K H vs ds) (a : Dp K H v d) : DpAll K H (vs ++ [v]) (ds ++ [d]) := dpsApp h (.cons a .nil)
theorem dpsTake : ∀ {vs : List V} {ds : List PyData} (n : Nat), DpAll K H vs ds → DpAll K H (vs.take n) (ds.take n)
  | _, _, 0, _ => .nil
  | _, _, _ + 1, .nil => .nil
  | _, _, n + 1, .cons a b => .cons a (dpsTake n b)
theorem dpsDrop : ∀ {vs : List V} {ds : List PyData} (n : Nat), DpAll K H vs ds → DpAll K H (vs.drop n) (ds.drop n)
  | _, _, 0, h => h
  | _, _, _ + 1, .nil => .nil
  | _, _, n + 1, .cons _ b => dpsDrop n b
theorem dpsRev : ∀ {vs : List V} {ds : List PyData}, DpAll K H vs ds → DpAll K H vs.reverse ds.reverse
  | _, _, .nil => .nil
  | _, _, .cons a b => by
    rw [List.reverse_cons, List.reverse_cons]
    exact dpsSnoc (dpsRev b) a
theorem dpsSet : ∀ {vs : List V} {ds : List PyData} {v : V} {d : PyData} (n : Nat), DpAll K H vs ds → Dp K H v d → DpAll K H (vs.set n v) (ds.set n d)
  | _, _, _, _, _, .nil, _ => .nil
  | _, _, _, _, 0, .cons _ b, h => .cons h b
  | _, _, _, _, n + 1, .cons a b, h => .cons a (dpsSet n b h)

/-! what holds no list: it stays when lists change -/
mutual
def noL : PyData → Bool
  | .none | .bool _ | .int _ | .str _ => true
  | .tuple xs => noLs xs
  | .list _ | .dict _ => false
def noLs : List PyData → Bool
  | [] => true
  | x :: xs => noL x && noLs xs
end
theorem noLs_all : ∀ {ds : List PyData}, (∀ d ∈ ds, noL d = true) → noLs ds = true
  | [], _ => by rw [noLs]
  | d :: ds, h => by
    rw [noLs, h d (List.mem_cons_self), noLs_all fun e he => h e (List.mem_cons_of_mem _ he)]
    rfl
theorem noLs_map {α : Type} {L : List α} {f : α → PyData} (h : ∀ a ∈ L, noL (f a) = true) : noLs (L.map f) = true := noLs_all fun d hd => by
  obtain ⟨a, ha, rfl⟩ := List.mem_map.mp hd
  exact h a ha
theorem noLs_app : ∀ {ds es : List PyData}, noLs ds = true → noLs es = true → noLs (ds ++ es) = true
  | [], _, _, h => h
  | d :: ds, es, h, h2 => by
    rw [noLs, Bool.and_eq_true] at h
    rw [List.cons_append, noLs, h.1, noLs_app h.2 h2]
    rfl
/-- every tuple stays -/
def Tups (H H' : Hp) : Prop := ∀ a xs, Rd H a (.tup xs) → Rd H' a (.tup xs)
theorem tupsEx (e : Ex H H') : Tups H H' := fun _ _ h => ex_rd e h
theorem tupsMut {p : Addr} {xs ys : List V} (h : H p = some (.lst xs)) : Tups H (upd H p (.lst ys)) := fun a zs r => by
  have hne : a ≠ p := fun e => by
    subst e
    rcases r with r | ⟨o, r⟩ <;> (rw [h] at r; cases r)
  rcases r with r | ⟨o, r⟩
  · exact .inl ((upd_ne hne).trans r)
  · exact .inr ⟨o, (upd_ne hne).trans r⟩
mutual
theorem dpTups (t : Tups H H') : ∀ {v : V} {d : PyData}, Dp K H v d → noL d = true → Dp K H' v d
  | _, _, .non, _ => .non
  | _, _, .bl b, _ => .bl b
  | _, _, .int i, _ => .int i
  | _, _, .str x, _ => .str x
  | _, _, .lst _ _, h => by rw [noL] at h; cases h
  | _, _, .tup s r, h => by
    rw [noL] at h
    refine .tup ?_ (dpsTups t r h)
    rcases s with s | s
    · exact .inl (t _ _ s)
    · exact .inr s
theorem dpsTups (t : Tups H H') : ∀ {vs : List V} {ds : List PyData}, DpAll K H vs ds → noLs ds = true → DpAll K H' vs ds
  | _, _, .nil, _ => .nil
  | _, _, .cons a b, h => by
    rw [noLs, Bool.and_eq_true] at h
    exact .cons (dpTups t a h.1) (dpsTups t b h.2)
end

theorem dpInt {v : V} {i : Int} (h : Dp K H v (.int i)) : v = .int i := by cases h; rfl
theorem dpStr {v : V} {x : Str} (h : Dp K H v (.str x)) : v = .str x := by cases h; rfl
theorem dpBl {v : V} {b : Bool} (h : Dp K H v (.bool b)) : v = .bl b := by cases h; rfl
theorem dpNon {v : V} (h : Dp K H v .none) : v = .non := by cases h; rfl
theorem dpLst {v : V} {ds : List PyData} (h : Dp K H v (.list ds)) : ∃ a xs, v = .ref a ∧ SqL K H a xs ∧ DpAll K H xs ds := by
  cases h with
  | lst s r => exact ⟨_, _, rfl, s, r⟩
theorem dpTup {v : V} {ds : List PyData} (h : Dp K H v (.tuple ds)) : ∃ a xs, v = .ref a ∧ SqT K H a xs ∧ DpAll K H xs ds := by
  cases h with
  | tup s r => exact ⟨_, _, rfl, s, r⟩
theorem dps0 {vs : List V} (h : DpAll K H vs []) : vs = [] := by cases h; rfl
theorem dps1 {vs : List V} {d : PyData} (h : DpAll K H vs [d]) : ∃ v, vs = [v] ∧ Dp K H v d := by
  cases h with
  | cons a b => cases b; exact ⟨_, rfl, a⟩
theorem dps2 {vs : List V} {d e : PyData} (h : DpAll K H vs [d, e]) : ∃ v w, vs = [v, w] ∧ Dp K H v d ∧ Dp K H w e := by
  cases h with
  | cons a b =>
    obtain ⟨w, rfl, q⟩ := dps1 b
    exact ⟨_, w, rfl, a, q⟩
theorem dps3 {vs : List V} {d e f : PyData} (h : DpAll K H vs [d, e, f]) : ∃ v w x, vs = [v, w, x] ∧ Dp K H v d ∧ Dp K H w e ∧ Dp K H x f := by
  cases h with
  | cons a b =>
    obtain ⟨w, x, rfl, q⟩ := dps2 b
    exact ⟨_, w, x, rfl, a, q⟩
theorem dps4 {vs : List V} {d e f g : PyData} (h : DpAll K H vs [d, e, f, g]) : ∃ v w x y, vs = [v, w, x, y] ∧ Dp K H v d ∧ Dp K H w e ∧ Dp K H x f ∧ Dp K H y g := by
  cases h with
  | cons a b =>
    obtain ⟨w, x, y, rfl, q⟩ := dps3 b
    exact ⟨_, w, x, y, rfl, a, q⟩
theorem dpOfL {a : Addr} {xs : List V} {ds : List PyData} (h : H a = some (.lst xs)) (r : DpAll K H xs ds) : Dp K H (.ref a) (.list ds) := .lst (sq_of h) r
theorem dpOfT {a : Addr} {xs : List V} {ds : List PyData} (h : H a = some (.tup xs)) (r : DpAll K H xs ds) : Dp K H (.ref a) (.tuple ds) := .tup (st_of h) r
end

/-! ### what an expression is worth -/
def EvD (K : PySem.W.Frag) (te : TE) (σ : L2.St) (H : Hp) (d : PyData) : Prop := ∀ H1, Ex H H1 → ∀ Q : VK, (∀ v H2, Ex H1 H2 → Dp K H2 v d → Q v H2) → te σ H1 Q
/-- a new list -/
def EvN (K : PySem.W.Frag) (te : TE) (σ : L2.St) (H : Hp) (ds : List PyData) : Prop := ∀ H1, Ex H H1 → ∀ Q : VK, (∀ p xs H2, H1 p = none → Ex H1 H2 → H2 p = some (.lst xs) → DpAll K H2 xs ds → Q (.ref p) H2) → te σ H1 Q
def EvAD (K : PySem.W.Frag) (ta : TA) (σ : L2.St) (H : Hp) (ds : List PyData) : Prop := ∀ H1, Ex H H1 → ∀ Q : List V → Hp → Prop, (∀ vs H2, Ex H1 H2 → DpAll K H2 vs ds → Q vs H2) → ta σ H1 Q

section
variable {K : PySem.W.Frag} {σ : L2.St} {H H' : Hp} {ta tb te tx : TE} {t u : TT} {x y z v : V} {r : R2} {d e : PyData}
theorem EvD.up (a : Ex H H') (h : EvD K te σ H d) : EvD K te σ H' d := fun H1 b Q q => h H1 (a.trans b) Q q
theorem EvN.up {ds : List PyData} (a : Ex H H') (h : EvN K te σ H ds) : EvN K te σ H' ds := fun H1 b Q q => h H1 (a.trans b) Q q
theorem EvAD.up {ta : TA} {ds : List PyData} (a : Ex H H') (h : EvAD K ta σ H ds) : EvAD K ta σ H' ds := fun H1 b Q q => h H1 (a.trans b) Q q
theorem edV {i : Nat} (h : σ[i]? = some (some v)) (hd : Dp K H v d) : EvD K (tVar i) σ H d := fun H1 a _ q => ⟨v, h, q v H1 (Ex.refl H1) (dpUp a hd)⟩
theorem edE (h : Ev te σ H v) (hd : ∀ H1 : Hp, Dp K H1 v d) : EvD K te σ H d := fun H1 a Q q => h H1 a Q fun H2 b => q v H2 b (hd H2)
theorem edI {i : Int} (h : Ev te σ H (.int i)) : EvD K te σ H (.int i) := edE h fun _ => .int i
theorem edS {w : Str} (h : Ev te σ H (.str w)) : EvD K te σ H (.str w) := edE h fun _ => .str w
theorem edB {b : Bool} (h : Ev te σ H (.bl b)) : EvD K te σ H (.bool b) := edE h fun _ => .bl b
theorem edNn (h : Ev te σ H .non) : EvD K te σ H .none := edE h fun _ => .non
theorem evI {i : Int} (h : EvD K te σ H (.int i)) : Ev te σ H (.int i) := fun H1 a Q q => h H1 a Q fun v H2 b hd => by rw [dpInt hd]; exact q H2 b
theorem evS {w : Str} (h : EvD K te σ H (.str w)) : Ev te σ H (.str w) := fun H1 a Q q => h H1 a Q fun v H2 b hd => by rw [dpStr hd]; exact q H2 b
theorem evB {c : Bool} (h : EvD K te σ H (.bool c)) : Ev te σ H (.bl c) := fun H1 a Q q => h H1 a Q fun v H2 b hd => by rw [dpBl hd]; exact q H2 b
theorem evNn (h : EvD K te σ H .none) : Ev te σ H .non := fun H1 a Q q => h H1 a Q fun v H2 b hd => by rw [dpNon hd]; exact q H2 b
theorem edN {ds : List PyData} (h : EvN K te σ H ds) : EvD K te σ H (.list ds) := fun H1 a Q q => h H1 a Q fun p xs H2 _ b h2 hd => q _ H2 b (dpOfL h2 hd)
theorem edIs (h : EvD K te σ H d) (q : d = e) : EvD K te σ H e := by rw [← q]; exact h
theorem enIs {ds es : List PyData} (h : EvN K te σ H ds) (q : ds = es) : EvN K te σ H es := by rw [← q]; exact h
theorem aNil : EvAD K tNil σ H [] := fun H1 _ _ q => q [] H1 (Ex.refl H1) .nil
theorem aCons {tr : TA} {ds : List PyData} (h : EvD K te σ H d) (hr : EvAD K tr σ H ds) : EvAD K (tCons te tr) σ H (d :: ds) := fun H1 a _ q =>
  h H1 a _ fun v H2 b hd => hr H2 (a.trans b) _ fun vs H3 c hds => q _ H3 (b.trans c) (.cons (dpUp c hd) hds)
theorem edTup {ta : TA} {ds : List PyData} (h : EvAD K ta σ H ds) (hl : ds.length ≤ 100000) : EvD K (tTup ta) σ H (.tuple ds) := fun H1 a _ q =>
  h H1 a _ fun vs H2 b hd => ⟨sz_of (by rw [dpsLen hd]; exact hl), fun p hp => q _ _ (b.trans (Ex.new hp)) (dpOfT upd_same (dpsUp (Ex.new hp) hd))⟩
theorem enLst {ta : TA} {ds : List PyData} (h : EvAD K ta σ H ds) (hl : ds.length ≤ 100000) : EvN K (tLst ta) σ H ds := fun H1 a _ q =>
  h H1 a _ fun vs H2 b hd => ⟨sz_of (by rw [dpsLen hd]; exact hl), fun p hp => q p _ _ (fresh_back b hp) (b.trans (Ex.new hp)) upd_same (dpsUp (Ex.new hp) hd)⟩
/-- operations -/
theorem edOp2 {f : PyData} (ha : EvD K ta σ H d) (hb : EvD K tb σ H e) (hr : ∀ H1 x y, Ex H H1 → Dp K H1 x d → Dp K H1 y e → ∀ Q : VK, (∀ v H2, Ex H1 H2 → Dp K H2 v f → Q v H2) → r x y H1 Q) : EvD K (tOp r ta tb) σ H f := fun H1 a Q q =>
  ha H1 a _ fun x H2 b hx => hb H2 (a.trans b) _ fun y H3 c hy => hr H3 x y ((a.trans b).trans c) (dpUp c hx) hy Q fun v H4 k hv => q v H4 ((b.trans c).trans k) hv
theorem atMap {ds : List PyData} {xs : List V} {i : Int} (h : DpAll K H xs ds) (ha : atI ds i = some d) : ∃ v, atI xs i = some v ∧ Dp K H v d := by
  unfold atI at ha ⊢
  rw [dpsLen h]
  cases hj : ixN ds.length i with
  | none => rw [hj] at ha; cases ha
  | some j =>
    rw [hj] at ha
    exact dpsAt h ha
theorem edIxL {ds : List PyData} {i : Int} (ha : EvD K ta σ H (.list ds)) (hb : EvD K tb σ H (.int i)) (hi : atI ds i = some d) : EvD K (tOp (rIxL K) ta tb) σ H d :=
  edOp2 ha hb fun H1 x y _ hx hy Q q => by
    obtain ⟨a, xs, rfl, hs, hr⟩ := dpLst hx
    have hy := dpInt hy
    subst hy
    obtain ⟨v, h1, h2⟩ := atMap hr hi
    exact ⟨a, xs, i, v, rfl, rfl, hs, h1, q v H1 (Ex.refl H1) h2⟩
theorem edIxT {ds : List PyData} {i : Int} (ha : EvD K ta σ H (.tuple ds)) (hb : EvD K tb σ H (.int i)) (hi : atI ds i = some d) : EvD K (tOp (rIxT K) ta tb) σ H d :=
  edOp2 ha hb fun H1 x y _ hx hy Q q => by
    obtain ⟨a, xs, rfl, hs, hr⟩ := dpTup hx
    have hy := dpInt hy
    subst hy
    obtain ⟨v, h1, h2⟩ := atMap hr hi
    exact ⟨a, xs, i, v, rfl, rfl, hs, h1, q v H1 (Ex.refl H1) h2⟩
theorem edIxS {w : Str} {i : Int} {c : Nat} (ha : EvD K ta σ H (.str w)) (hb : EvD K tb σ H (.int i)) (hl : w.length ≤ 100000) (hi : atI w.cps.toList i = some c) : EvD K (tOp rIxS ta tb) σ H (.str ⟨#[c]⟩) :=
  edS (ev_op (evS ha) (evI hb) (rv_ixS hl hi))
/-- sums of ints | of texts -/
theorem edI2 {g : Int → Int → V} {i j k : Int} (ha : EvD K ta σ H (.int i)) (hb : EvD K tb σ H (.int j)) (hg : g i j = .int k) : EvD K (tOp (rI0 g) ta tb) σ H (.int k) :=
  edI (ev_is (ev_op (evI ha) (evI hb) rv_I0) hg)
theorem edI2c {C : Int → Int → Prop} {g : Int → Int → V} {i j k : Int} (ha : EvD K ta σ H (.int i)) (hb : EvD K tb σ H (.int j)) (hc : C i j) (hg : g i j = .int k) : EvD K (tOp (rI C g) ta tb) σ H (.int k) :=
  edI (ev_is (ev_op (evI ha) (evI hb) (rv_I hc)) hg)
/-- slices of lists: new -/
theorem dpsCut {xs : List V} {ds : List PyData} (h : DpAll K H xs ds) (lo hi : Option Int) : DpAll K H (cutV xs lo hi) ((ds.drop (HT.sIx ds.length 0 lo)).take (HT.sIx ds.length ds.length hi - HT.sIx ds.length 0 lo)) := by
  unfold cutV
  rw [dpsLen h]
  exact dpsTake _ (dpsDrop _ h)
def cutD (ds : List PyData) (lo hi : Option Int) : List PyData := (ds.drop (HT.sIx ds.length 0 lo)).take (HT.sIx ds.length ds.length hi - HT.sIx ds.length 0 lo)
theorem enCut {tl th : TO} {ds : List PyData} {lo hi : Option Int} (h : EvD K te σ H (.list ds)) (h1 : EvO tl σ H lo) (h2 : EvO th σ H hi) : EvN K (tSl (rSlL K) te tl th) σ H (cutD ds lo hi) := fun H1 a _ q =>
  h H1 a _ fun v H2 b hd => h1 H2 (a.trans b) _ fun H3 c => h2 H3 ((a.trans b).trans c) _ fun H4 k => by
    obtain ⟨p, xs, rfl, hs, hr⟩ := dpLst hd
    exact ⟨p, xs, rfl, ex_l (c.trans k) hs, fun l hl => q l _ _ (fresh_back ((b.trans c).trans k) hl) (((b.trans c).trans k).trans (Ex.new hl)) upd_same (dpsCut (dpsUp ((c.trans k).trans (Ex.new hl)) hr) lo hi)⟩
/-- the sum of two new lists -/
theorem enCat {ds es : List PyData} (ha : EvN K ta σ H ds) (hb : EvN K tb σ H es) (hl : ds.length + es.length ≤ 100000) : EvN K (tOp rCat ta tb) σ H (ds ++ es) := fun H1 a _ q =>
  ha H1 a _ fun p xs H2 hp b h2 hd => hb H2 (a.trans b) _ fun p' ys H3 hp' c h3 he =>
    ⟨p, p', xs, ys, rfl, rfl, c p _ h2, h3, sz_of (by rw [dpsLen hd, dpsLen he]; exact hl), fun l hlz => q l _ _ (fresh_back (b.trans c) hlz) ((b.trans c).trans (Ex.new hlz)) upd_same
      (dpsApp (dpsUp (c.trans (Ex.new hlz)) hd) (dpsUp (Ex.new hlz) he))⟩
/-- lists that stand as tracked lists -/
theorem enCatV {i j : Nat} {p p' : Addr} {xs ys : List V} {ds es : List PyData} (hi : σ[i]? = some (some (.ref p))) (hj : σ[j]? = some (some (.ref p'))) (h1 : H p = some (.lst xs)) (h2 : H p' = some (.lst ys)) (hd : DpAll K H xs ds) (he : DpAll K H ys es) (hl : ds.length + es.length ≤ 100000) :
    EvN K (tOp rCat (tVar i) (tVar j)) σ H (ds ++ es) := fun H1 a _ q =>
  ⟨_, hi, _, hj, p, p', xs, ys, rfl, rfl, a p _ h1, a p' _ h2, sz_of (by rw [dpsLen hd, dpsLen he]; exact hl), fun l hlz => q l _ _ hlz (Ex.new hlz) upd_same
      (dpsApp (dpsUp (a.trans (Ex.new hlz)) hd) (dpsUp (a.trans (Ex.new hlz)) he))⟩
/-- a new list and one that stands -/
theorem enCatNV {j : Nat} {p' : Addr} {ys : List V} {ds es : List PyData} (ha : EvN K ta σ H ds) (hj : σ[j]? = some (some (.ref p'))) (h2 : H p' = some (.lst ys)) (he : DpAll K H ys es) (hl : ds.length + es.length ≤ 100000) :
    EvN K (tOp rCat ta (tVar j)) σ H (ds ++ es) := fun H1 a _ q =>
  ha H1 a _ fun p xs H2 hp b h1 hd => ⟨_, hj, p, p', xs, ys, rfl, rfl, h1, b _ _ (a p' _ h2), sz_of (by rw [dpsLen hd, dpsLen he]; exact hl), fun l hlz => q l _ _ (fresh_back b hlz) (b.trans (Ex.new hlz)) upd_same
      (dpsApp (dpsUp (Ex.new hlz) hd) (dpsUp ((a.trans b).trans (Ex.new hlz)) he))⟩
/-- == and != of data -/
theorem evEq (ha : EvD K ta σ H d) (hb : EvD K tb σ H e) (sd : SeqAt.shaped d = true) (se : SeqAt.shaped e = true) : Ev (tOp (rEqD K) ta tb) σ H (.bl (PyData.eqv d e)) := fun H1 a Q q =>
  ha H1 a _ fun x H2 b hx => hb H2 (a.trans b) _ fun y H3 c hy => ⟨d, e, dpUp c hx, hy, sd, se, q H3 (b.trans c)⟩
theorem evNe (ha : EvD K ta σ H d) (hb : EvD K tb σ H e) (sd : SeqAt.shaped d = true) (se : SeqAt.shaped e = true) : Ev (tOp (rNeD K) ta tb) σ H (.bl (!PyData.eqv d e)) := fun H1 a Q q =>
  ha H1 a _ fun x H2 b hx => hb H2 (a.trans b) _ fun y H3 c hy => ⟨d, e, dpUp c hx, hy, sd, se, q H3 (b.trans c)⟩
theorem eqvSelf (sd : SeqAt.shaped d = true) : PyData.eqv d d = true := SeqAt.eqv_refl d (SeqAt.canLay_of_shaped sd)
theorem evSame (ha : EvD K ta σ H d) (hb : EvD K tb σ H d) (sd : SeqAt.shaped d = true) : Ev (tOp (rEqD K) ta tb) σ H (.bl true) := ev_is (evEq ha hb sd sd) (by rw [eqvSelf sd])
theorem evDiff (ha : EvD K ta σ H d) (hb : EvD K tb σ H d) (sd : SeqAt.shaped d = true) : Ev (tOp (rNeD K) ta tb) σ H (.bl false) := ev_is (evNe ha hb sd sd) (by rw [eqvSelf sd]; rfl)
/-- flat things in a list, in a tuple -/
def fV : PyData → Option V
  | .none => some .non
  | .bool b => some (.bl b)
  | .int i => some (.int i)
  | .str x => some (.str x)
  | _ => none
theorem fvIs {d : PyData} {w : V} (h : fV d = some w) (hv : Dp K H v d) : v = w := by
  cases hv <;> simp [fV] at h <;> exact h
theorem fvAll : ∀ {ds : List PyData} {vs ws : List V}, ds.map fV = ws.map some → DpAll K H vs ds → vs = ws
  | [], vs, ws, h, hd => by
    cases hd
    cases ws with
    | nil => rfl
    | cons => cases h
  | d :: ds, vs, ws, h, hd => by
    cases hd with
    | cons a b =>
      cases ws with
      | nil => cases h
      | cons w ws =>
        rw [List.map_cons, List.map_cons] at h
        injection h with h1 h2
        rw [fvIs h1 a, fvAll h2 b]
theorem evInT {neg : Bool} {ds : List PyData} {w : V} {ws : List V} (ha : EvD K ta σ H d) (hb : EvD K tb σ H (.tuple ds)) (hw : fV d = some w) (hs : ds.map fV = ws.map some) (f1 : flatV w = true) (f2 : ws.all flatV = true) :
    Ev (tOp (rIn K neg) ta tb) σ H (.bl (if neg then !inV w ws else inV w ws)) := fun H1 a Q q =>
  ha H1 a _ fun x H2 b hx => hb H2 (a.trans b) _ fun y H3 c hy => by
    obtain ⟨p, xs, rfl, hsq, hr⟩ := dpTup hy
    have e1 := fvIs hw hx
    have e2 := fvAll hs hr
    subst e1 e2
    exact ⟨p, xs, rfl, .inr hsq, f1, f2, q H3 (b.trans c)⟩
theorem evInL {neg : Bool} {ds : List PyData} {w : V} {ws : List V} (ha : EvD K ta σ H d) (hb : EvD K tb σ H (.list ds)) (hw : fV d = some w) (hs : ds.map fV = ws.map some) (f1 : flatV w = true) (f2 : ws.all flatV = true) :
    Ev (tOp (rIn K neg) ta tb) σ H (.bl (if neg then !inV w ws else inV w ws)) := fun H1 a Q q =>
  ha H1 a _ fun x H2 b hx => hb H2 (a.trans b) _ fun y H3 c hy => by
    obtain ⟨p, xs, rfl, hsq, hr⟩ := dpLst hy
    have e1 := fvIs hw hx
    have e2 := fvAll hs hr
    subst e1 e2
    exact ⟨p, xs, rfl, .inl hsq, f1, f2, q H3 (b.trans c)⟩
/-- len -/
def lenR (K : PySem.W.Frag) : List V → Hp → VK → Prop := fun xs H Q => ∃ x n, xs = [x] ∧ LenV K x H n ∧ Q (.int n) H
theorem edLenL {ds : List PyData} (h : EvD K te σ H (.list ds)) : EvD K (tCB (lenR K) (tCons te tNil)) σ H (.int ds.length) := edI fun H1 a Q q =>
  h H1 a _ fun v H2 b hd => by
    obtain ⟨p, xs, rfl, hs, hr⟩ := dpLst hd
    exact ⟨_, ds.length, rfl, .inl ⟨xs, hs, (dpsLen hr).symm⟩, q H2 b⟩
theorem edLenT {ds : List PyData} (h : EvD K te σ H (.tuple ds)) : EvD K (tCB (lenR K) (tCons te tNil)) σ H (.int ds.length) := edI fun H1 a Q q =>
  h H1 a _ fun v H2 b hd => by
    obtain ⟨p, xs, rfl, hs, hr⟩ := dpTup hd
    exact ⟨_, ds.length, rfl, .inr ⟨xs, hs, (dpsLen hr).symm⟩, q H2 b⟩
theorem edLenS {w : Str} (h : EvD K te σ H (.str w)) (hl : w.length ≤ 100000) : EvD K (tCB (lenR K) (tCons te tNil)) σ H (.int w.length) := edI fun H1 a Q q =>
  h H1 a _ fun v H2 b hd => by
    have e := dpStr hd
    subst e
    exact ⟨_, w.length, rfl, ⟨sz_of hl, rfl⟩, q H2 b⟩
/-- isinstance of a built-in class -/
def tyD : PyData → String
  | .none => "NoneType"
  | .bool _ => "bool"
  | .int _ => "int"
  | .str _ => "str"
  | .list _ => "list"
  | .tuple _ => "tuple"
  | .dict _ => "dict"
theorem tyxOf (h : Dp K H v d) : TyX K H v (.type (tyD d)) := by
  cases h with
  | non => exact .base .non
  | bl b => exact .base (.bl b)
  | int i => exact .base (.int i)
  | str x => exact .base (.str x)
  | lst s _ =>
    rcases s with (s | ⟨o, s⟩) | ⟨o, its, n, s, c, _⟩
    · exact .base (.lst s)
    · exact .base (.frz s)
    · exact .kList s c
  | tup s _ =>
    rcases s with (s | ⟨o, s⟩) | ⟨o, its, n, s, c, _⟩
    · exact .base (.tup s)
    · exact .fTuple s
    · exact .kTuple s c
end
end Dt

/-! What is walked, by its data; comprehensions, calls, statements. -/
namespace Dt
open PySem L2 Evl

/-- the walk J gives ds, whatever the heap has grown to -/
def Yl (K : PySem.W.Frag) (J : It) (H0 : Hp) (ds : List PyData) : Prop :=
  ∀ H, Ex H0 H → ∀ i : Nat, (∀ d, ds[i]? = some d → J.go i H ∧ ∀ x H', J.yld i H x H' → Ex H H' ∧ Dp K H' x d) ∧ (ds[i]? = none → J.stop i H)
def IdD (K : PySem.W.Frag) (wi : TI) (σ : L2.St) (H : Hp) (ds : List PyData) : Prop := ∀ H1, Ex H H1 → ∀ R : It → Hp → Prop, (∀ J H2, Ex H1 H2 → Yl K J H2 ds → R J H2) → wi σ H1 R

section
variable {K : PySem.W.Frag} {σ : L2.St} {H H' : Hp} {ta tb te tx : TE} {t u : TT} {x y z v : V} {r : R2} {d e : PyData} {wi : TI} {g : TG}
theorem idIs {ds es : List PyData} (h : IdD K wi σ H ds) (q : ds = es) : IdD K wi σ H es := by rw [← q]; exact h
theorem ylL {p : Addr} {xs : List V} {ds : List PyData} (hs : SqL K H p xs) (hr : DpAll K H xs ds) : Yl K (Itl K p) H ds := fun H3 c i => by
  refine ⟨fun d hi => ?_, fun hi => ?_⟩
  · obtain ⟨v, h1, h2⟩ := dpsAt hr hi
    refine ⟨⟨xs, v, ex_l c hs, h1⟩, fun x H' hy => ?_⟩
    obtain ⟨rfl, hy⟩ := hy
    have e1 := (hy xs (ex_l c hs)).symm.trans h1
    cases e1
    exact ⟨Ex.refl _, dpUp c h2⟩
  · refine ⟨xs, ex_l c hs, ?_⟩
    rw [dpsLen hr]
    exact List.getElem?_eq_none_iff.mp hi
theorem ylT {p : Addr} {xs : List V} {ds : List PyData} (hs : SqT K H p xs) (hr : DpAll K H xs ds) : Yl K (Itt K p) H ds := fun H3 c i => by
  refine ⟨fun d hi => ?_, fun hi => ?_⟩
  · obtain ⟨v, h1, h2⟩ := dpsAt hr hi
    refine ⟨⟨xs, v, ex_t c hs, h1⟩, fun x H' hy => ?_⟩
    obtain ⟨rfl, hy⟩ := hy
    have e1 := (hy xs (ex_t c hs)).symm.trans h1
    cases e1
    exact ⟨Ex.refl _, dpUp c h2⟩
  · refine ⟨xs, ex_t c hs, ?_⟩
    rw [dpsLen hr]
    exact List.getElem?_eq_none_iff.mp hi
theorem idL {tl : TE} {ds : List PyData} (h : EvD K tl σ H (.list ds)) : IdD K (iList K tl) σ H ds := fun H1 a R q =>
  h H1 a _ fun v H2 b hd => by
    obtain ⟨p, xs, rfl, hs, hr⟩ := dpLst hd
    exact ⟨p, rfl, ⟨xs, hs⟩, q _ _ b (ylL hs hr)⟩
theorem idT {tl : TE} {ds : List PyData} (h : EvD K tl σ H (.tuple ds)) : IdD K (iTup K tl) σ H ds := fun H1 a R q =>
  h H1 a _ fun v H2 b hd => by
    obtain ⟨p, xs, rfl, hs, hr⟩ := dpTup hd
    exact ⟨p, rfl, ⟨xs, hs⟩, q _ _ b (ylT hs hr)⟩
theorem evA1 {ta : TA} {i : Int} (h : EvAD K ta σ H [.int i]) : EvA ta σ H [.int i] := fun H1 a Q q => h H1 a Q fun vs H2 b hd => by
  obtain ⟨v, rfl, h1⟩ := dps1 hd
  rw [dpInt h1]
  exact q H2 b
theorem evA2 {ta : TA} {i j : Int} (h : EvAD K ta σ H [.int i, .int j]) : EvA ta σ H [.int i, .int j] := fun H1 a Q q => h H1 a Q fun vs H2 b hd => by
  obtain ⟨v, w, rfl, h1, h2⟩ := dps2 hd
  rw [dpInt h1, dpInt h2]
  exact q H2 b
theorem evA3 {ta : TA} {i j k : Int} (h : EvAD K ta σ H [.int i, .int j, .int k]) : EvA ta σ H [.int i, .int j, .int k] := fun H1 a Q q => h H1 a Q fun vs H2 b hd => by
  obtain ⟨v, w, x, rfl, h1, h2, h3⟩ := dps3 hd
  rw [dpInt h1, dpInt h2, dpInt h3]
  exact q H2 b
theorem ylRange {lo : Int} {n : Nat} : Yl K (Itr lo n) H ((List.range n).map fun i => .int (lo + (i : Nat))) := fun H3 c i => by
  refine ⟨fun d hi => ?_, fun hi => ?_⟩
  · rw [List.getElem?_map] at hi
    by_cases h : i < n
    · rw [List.getElem?_range h] at hi
      refine ⟨h, fun x H' hy => ?_⟩
      obtain ⟨rfl, rfl⟩ := hy
      cases hi
      exact ⟨Ex.refl _, .int _⟩
    · rw [List.getElem?_eq_none (by simpa using h)] at hi
      cases hi
  · rw [List.getElem?_eq_none_iff, List.length_map, List.length_range] at hi
    exact hi
theorem idR1 {ta : TA} {n : Int} (h : EvAD K ta σ H [.int n]) (h0 : -100000 ≤ n) (h1 : n ≤ 100000) : IdD K (iRng1 ta) σ H ((List.range n.toNat).map fun i => .int (i : Nat)) := fun H1 a R q =>
  evA1 h H1 a _ fun H2 b => ⟨n, rfl, by omega, by omega, q _ _ b (by
    have y := ylRange (K := K) (H := H2) (lo := 0) (n := n.toNat)
    have e : (fun i : Nat => PyData.int (0 + (i : Int))) = fun i : Nat => PyData.int (i : Int) := by funext i; rw [Int.zero_add]
    rw [e] at y
    exact y)⟩
theorem idR2 {ta : TA} {i j : Int} (h : EvAD K ta σ H [.int i, .int j]) (h0 : -100000 ≤ i ∧ i ≤ 100000 ∧ -100000 ≤ j ∧ j ≤ 100000) : IdD K (iRng2 ta) σ H ((List.range (j - i).toNat).map fun k => .int (i + (k : Nat))) := fun H1 a R q =>
  evA2 h H1 a _ fun H2 b => ⟨i, j, rfl, by omega, q _ _ b ylRange⟩
theorem idR3 {ta : TA} {i j c : Int} {n : Nat} (h : EvAD K ta σ H [.int i, .int j, .int c]) (hr : RgC i j c n) : IdD K (iRng3 ta) σ H ((List.range n).map fun k => .int (i + (k : Nat) * c)) := fun H1 a R q =>
  evA3 h H1 a _ fun H2 b => ⟨i, j, c, n, rfl, hr, q _ _ b fun H3 e m => by
    refine ⟨fun d hi => ?_, fun hi => ?_⟩
    · rw [List.getElem?_map] at hi
      by_cases h : m < n
      · rw [List.getElem?_range h] at hi
        refine ⟨h, fun x H' hy => ?_⟩
        obtain ⟨rfl, rfl⟩ := hy
        cases hi
        exact ⟨Ex.refl _, .int _⟩
      · rw [List.getElem?_eq_none (by simpa using h)] at hi
        cases hi
    · rw [List.getElem?_eq_none_iff, List.length_map, List.length_range] at hi
      exact hi⟩
theorem idStr {w : Str} (h : EvD K te σ H (.str w)) : IdD K (iStr te) σ H (w.cps.toList.map fun c => .str ⟨#[c]⟩) := fun H1 a R q =>
  evS h H1 a _ fun H2 b => ⟨w, rfl, q _ _ b fun H3 e i => by
    refine ⟨fun d hi => ?_, fun hi => ?_⟩
    · rw [List.getElem?_map, Array.getElem?_toList] at hi
      cases hc : w.cps[i]? with
      | none => rw [hc] at hi; cases hi
      | some c =>
        rw [hc] at hi
        cases hi
        refine ⟨?_, fun x H' hy => ?_⟩
        · show i < w.cps.size
          rw [Array.getElem?_eq_some_iff] at hc
          exact hc.1
        · obtain ⟨rfl, c', h1, rfl⟩ := hy
          rw [hc] at h1
          cases h1
          exact ⟨Ex.refl _, .str _⟩
    · rw [List.getElem?_eq_none_iff, List.length_map, Array.length_toList] at hi
      exact hi⟩
theorem idEnum {ta : TA} {ds : List PyData} (h : EvAD K ta σ H [.list ds]) : IdD K (iEnum K ta) σ H (ds.mapIdx fun i d => .tuple [.int (i : Nat), d]) := fun H1 a R q =>
  h H1 a _ fun vs H2 b hd => by
    obtain ⟨v, rfl, h1⟩ := dps1 hd
    obtain ⟨p, xs, rfl, hs, hr⟩ := dpLst h1
    refine ⟨p, xs, rfl, hs, q _ _ b fun H3 c i => ⟨fun d hi => ?_, fun hi => ?_⟩⟩
    · rw [List.getElem?_mapIdx] at hi
      cases hx : ds[i]? with
      | none => rw [hx] at hi; cases hi
      | some d0 =>
        rw [hx] at hi
        cases hi
        obtain ⟨v, h1, h2⟩ := dpsAt hr hx
        refine ⟨⟨xs, v, ex_l c hs, h1⟩, fun x H' hy => ?_⟩
        obtain ⟨T, x1, rfl, hT, rfl, hy⟩ := hy
        have e1 := (hy xs (ex_l c hs)).symm.trans h1
        cases e1
        exact ⟨Ex.new hT, dpOfT upd_same (.cons (.int _) (.cons (dpUp (c.trans (Ex.new hT)) h2) .nil))⟩
    · refine ⟨xs, ex_l c hs, ?_⟩
      rw [List.getElem?_eq_none_iff, List.length_mapIdx] at hi
      rw [dpsLen hr]
      exact hi
theorem idZip {ta : TA} {ds es : List PyData} (h : EvAD K ta σ H [.list ds, .list es]) : IdD K (iZip K ta) σ H (List.zipWith (fun a b => .tuple [a, b]) ds es) := fun H1 a R q =>
  h H1 a _ fun vs H2 b hd => by
    obtain ⟨v, w, rfl, h1, h2⟩ := dps2 hd
    obtain ⟨p, xs, rfl, hs, hr⟩ := dpLst h1
    obtain ⟨p', ys, rfl, hs', hr'⟩ := dpLst h2
    refine ⟨p, p', xs, ys, rfl, hs, hs', q _ _ b fun H3 c i => ⟨fun d hi => ?_, fun hi => ?_⟩⟩
    · rw [List.getElem?_zipWith] at hi
      cases hx : ds[i]? with
      | none => rw [hx] at hi; simp at hi
      | some d0 =>
        cases hx' : es[i]? with
        | none => rw [hx, hx'] at hi; simp at hi
        | some e0 =>
          rw [hx, hx'] at hi
          cases hi
          obtain ⟨v, k1, k2⟩ := dpsAt hr hx
          obtain ⟨v', k1', k2'⟩ := dpsAt hr' hx'
          refine ⟨⟨xs, ys, v, v', ex_l c hs, ex_l c hs', k1, k1'⟩, fun x H' hy => ?_⟩
          obtain ⟨T, x1, y1, rfl, hT, rfl, hy, hy'⟩ := hy
          have e1 := (hy xs (ex_l c hs)).symm.trans k1
          have e2 := (hy' ys (ex_l c hs')).symm.trans k1'
          cases e1
          cases e2
          exact ⟨Ex.new hT, dpOfT upd_same (.cons (dpUp (c.trans (Ex.new hT)) k2) (.cons (dpUp (c.trans (Ex.new hT)) k2') .nil))⟩
    · refine ⟨xs, ys, ex_l c hs, ex_l c hs', ?_⟩
      rw [List.getElem?_eq_none_iff, List.length_zipWith] at hi
      rw [dpsLen hr, dpsLen hr']
      omega

/-- a comprehension -/
theorem enLc {α : Type} (L : List α) (enc : α → PyData) (f : α → Bool) (vd : α → PyData) {vs : List Nat} (h : IdD K wi σ H (L.map enc)) (hz : L.length ≤ 100000) (hn : ∀ a ∈ L, f a = true → noL (vd a) = true)
    (hb : ∀ a ∈ L, ∀ H1 x, Ex H H1 → Dp K H1 x (enc a) → ∃ σ2, (∀ Q : L2.St → Hp → Prop, Q σ2 H1 → g x (wipe σ vs) H1 Q) ∧ wipe σ2 vs = wipe σ vs ∧ EvT t σ2 H1 (f a) ∧ (f a = true → EvD K te σ2 H1 (vd a))) :
    EvN K (tLc wi g t te vs) σ H ((L.filter f).map vd) := fun H1 e Q q => h H1 e _ fun J H2 e2 yl => by
  intro D hD
  have hn2 : ∀ i, noLs (((L.take i).filter f).map vd) = true := fun i => noLs_map fun a ha => by
    obtain ⟨h1, h2⟩ := List.mem_filter.mp ha
    exact hn a (List.mem_of_mem_take h1) h2
  have hlen : ∀ i, (((L.take i).filter f).map vd).length ≤ L.length := fun i => by
    rw [List.length_map]
    have k := List.length_filter_le f (L.take i)
    have k2 := List.length_take_le' i L
    omega
  refine ⟨fun i m H' => m = L.length - i ∧ i ≤ L.length ∧ Ex H2 H' ∧ ∃ acc, H' D = some (.lst acc) ∧ DpAll K H' acc (((L.take i).filter f).map vd), ⟨L.length, by omega, Nat.zero_le _, Ex.new hD, [], upd_same, .nil⟩, ?_⟩
  rintro i m H' ⟨rfl, hi, ex, acc, hacc, hd⟩
  obtain ⟨y1, y2⟩ := yl H' ex i
  by_cases hlt : i < L.length
  · have hget : L[i]? = some L[i] := List.getElem?_eq_getElem hlt
    have hm : L[i] ∈ L := List.getElem_mem hlt
    have tk : L.take (i + 1) = L.take i ++ [L[i]] := by rw [List.take_add_one, hget]; rfl
    obtain ⟨go, yy⟩ := y1 (enc L[i]) (by rw [List.getElem?_map, hget]; rfl)
    refine .inr ⟨go, _, fun H3 w => ⟨L.length - (i + 1), by omega, w⟩, fun x H3 hy => ?_⟩
    obtain ⟨ex3, hx⟩ := yy x H3 hy
    obtain ⟨σ2, hg, hw, ht, he⟩ := hb L[i] hm H3 x (((e.trans e2).trans ex).trans ex3) hx
    refine hg _ ⟨hw, ht H3 (Ex.refl _) _ fun H4 ex4 => ?_⟩
    have ex24 : Ex H2 H4 := (ex.trans ex3).trans ex4
    cases hf : f L[i] with
    | false =>
      refine ⟨rfl, hlt, ex24, acc, ex4 _ _ (ex3 _ _ hacc), ?_⟩
      rw [tk, List.filter_append, List.filter_cons, if_neg (by rw [hf]; decide), List.filter_nil, List.append_nil]
      exact dpsUp (ex3.trans ex4) hd
    | true =>
      refine he hf H4 ex4 _ fun y H5 ex5 hy5 => ?_
      have hacc5 : H5 D = some (.lst acc) := ex5 _ _ (ex4 _ _ (ex3 _ _ hacc))
      have hd5 := dpsUp ((ex3.trans ex4).trans ex5) hd
      refine ⟨acc, hacc5, sz_lt (by have k := hlen i; rw [dpsLen hd5]; have k3 : (((L.take i).filter f).map vd).length ≤ i := by
                                      rw [List.length_map]
                                      exact Nat.le_trans (List.length_filter_le _ _) (List.length_take_le _ _)
                                    omega), rfl, hlt, ?_, acc ++ [y], upd_same, ?_⟩
      · exact (ex24.trans ex5).mut hD
      · rw [tk, List.filter_append, List.filter_cons, if_pos hf, List.filter_nil, List.map_append]
        exact dpsSnoc (dpsTups (tupsMut hacc5) hd5 (hn2 i)) (dpTups (tupsMut hacc5) hy5 (hn _ hm hf))
  · have ei : i = L.length := by omega
    refine .inl ⟨y2 (by rw [List.getElem?_map, List.getElem?_eq_none (by omega)]; rfl), ?_⟩
    rw [ei, List.take_length] at hd
    exact q D acc H' (fresh_back e2 hD) (e2.trans ex) hacc hd
/-- .. without a test -/
theorem enLcA {α : Type} (L : List α) (enc : α → PyData) (vd : α → PyData) {vs : List Nat} (h : IdD K wi σ H (L.map enc)) (hz : L.length ≤ 100000) (hn : ∀ a ∈ L, noL (vd a) = true)
    (hb : ∀ a ∈ L, ∀ H1 x, Ex H H1 → Dp K H1 x (enc a) → ∃ σ2, (∀ Q : L2.St → Hp → Prop, Q σ2 H1 → g x (wipe σ vs) H1 Q) ∧ wipe σ2 vs = wipe σ vs ∧ EvD K te σ2 H1 (vd a)) :
    EvN K (tLc wi g tYes te vs) σ H (L.map vd) := by
  have k := enLc (t := tYes) L enc (fun _ => true) vd h hz (fun a ha _ => hn a ha) (fun a ha H1 x e hx => by
    obtain ⟨σ2, h1, h2, h3⟩ := hb a ha H1 x e hx
    exact ⟨σ2, h1, h2, fun H2 _ _ q => q H2 (Ex.refl H2), fun _ => h3⟩)
  have e : L.filter (fun _ => true) = L := List.filter_eq_self.mpr fun _ _ => rfl
  rw [e] at k
  exact k
/-- targets: a name; a tuple of two names, of three -/
theorem tgName {j : Nat} {x : V} {σ1 : L2.St} : ∀ Q : L2.St → Hp → Prop, Q (σ1.set j (some x)) H → gName j x σ1 H Q := fun _ q => q
theorem tgTup2 {x : V} {d1 d2 : PyData} {i j : Nat} {σ1 : L2.St} (h : Dp K H x (.tuple [d1, d2])) : ∃ v w, Dp K H v d1 ∧ Dp K H w d2 ∧ ∀ Q : L2.St → Hp → Prop, Q ((σ1.set i (some v)).set j (some w)) H → gTup K 2 (gCons (gName i) (gCons (gName j) gNil)) x σ1 H Q := by
  obtain ⟨a, xs, rfl, hs, hr⟩ := dpTup h
  obtain ⟨v, w, rfl, h1, h2⟩ := dps2 hr
  exact ⟨v, w, h1, h2, fun Q q => ⟨a, _, rfl, hs, rfl, v, _, rfl, w, _, rfl, rfl, q⟩⟩
theorem tgTup3 {x : V} {d1 d2 d3 : PyData} {i j k : Nat} {σ1 : L2.St} (h : Dp K H x (.tuple [d1, d2, d3])) : ∃ v w z, Dp K H v d1 ∧ Dp K H w d2 ∧ Dp K H z d3 ∧ ∀ Q : L2.St → Hp → Prop, Q (((σ1.set i (some v)).set j (some w)).set k (some z)) H → gTup K 3 (gCons (gName i) (gCons (gName j) (gCons (gName k) gNil))) x σ1 H Q := by
  obtain ⟨a, xs, rfl, hs, hr⟩ := dpTup h
  obtain ⟨v, w, z, rfl, h1, h2, h3⟩ := dps3 hr
  exact ⟨v, w, z, h1, h2, h3, fun Q q => ⟨a, _, rfl, hs, rfl, v, _, rfl, w, _, rfl, z, _, rfl, rfl, q⟩⟩

/-! calls -/
def PrD (K : PySem.W.Frag) (P : List PyData → PyData → Prop) : Sp := fun vs H Q _ => ∃ ds d, DpAll K H vs ds ∧ P ds d ∧ ∀ v H', Ex H H' → Dp K H' v d → Q v H'
def PrN (K : PySem.W.Frag) (P : List PyData → List PyData → Prop) : Sp := fun vs H Q _ => ∃ ds es, DpAll K H vs ds ∧ P ds es ∧ ∀ p xs H', H p = none → Ex H H' → H' p = some (.lst xs) → DpAll K H' xs es → Q (.ref p) H'
theorem edCall {P : List PyData → PyData → Prop} {E : XK} {ta : TA} {ds : List PyData} (h : EvAD K ta σ H ds) (hp : P ds d) : EvD K (tCall (PrD K P) [] E ta) σ H d := fun H1 a Q q =>
  h H1 a _ fun vs H2 b hd => ⟨ds, d, by rw [List.append_nil]; exact hd, hp, fun v H3 c hv => q v H3 (b.trans c) hv⟩
theorem enCall {P : List PyData → List PyData → Prop} {E : XK} {ta : TA} {ds es : List PyData} (h : EvAD K ta σ H ds) (hp : P ds es) : EvN K (tCall (PrN K P) [] E ta) σ H es := fun H1 a Q q =>
  h H1 a _ fun vs H2 b hd => ⟨ds, es, by rw [List.append_nil]; exact hd, hp, fun p xs H3 h1 c h2 h3 => q p xs H3 (fresh_back b h1) (b.trans c) h2 h3⟩
theorem prdLen {P : List PyData → PyData → Prop} {n : Nat} (hP : ∀ ds d, P ds d → ds.length = n) : ∀ vs H Q E, PrD K P vs H Q E → vs.length = n := fun vs H Q E ⟨ds, d, h, p, _⟩ => (dpsLen h).trans (hP ds d p)
theorem prnLen {P : List PyData → List PyData → Prop} {n : Nat} (hP : ∀ ds d, P ds d → ds.length = n) : ∀ vs H Q E, PrN K P vs H Q E → vs.length = n := fun vs H Q E ⟨ds, d, h, p, _⟩ => (dpsLen h).trans (hP ds d p)
/-- isinstance | all | list | sum | join -/
theorem edIsi {n : String} {b : Bool} (h : EvD K te σ H d) (hk : kitB (tyD d) n = some b) : EvD K (tCB (rIsi K) (tCons te (tCons (tC (.ty n)) tNil))) σ H (.bool b) := edB fun H1 a Q q =>
  h H1 a _ fun v H2 c hv => ⟨v, .ty n, _, _, b, rfl, .ty n, tyxOf hv, kit_ty hk, q H2 c⟩
theorem edAll {bs : List Bool} (h : EvD K te σ H (.list (bs.map .bool))) : EvD K (tCB (rAll K) (tCons te tNil)) σ H (.bool (bs.all id)) := edB fun H1 a Q q =>
  h H1 a _ fun v H2 c hv => by
    obtain ⟨p, xs, rfl, hs, hr⟩ := dpLst hv
    have e := fvAll (ws := bs.map V.bl) (by rw [List.map_map, List.map_map]; rfl) hr
    subst e
    exact ⟨p, bs, rfl, hs, q H2 c⟩
theorem edSum {ns : List Int} (h : EvD K te σ H (.list (ns.map .int))) : EvD K (tCB (rSum K) (tCons te tNil)) σ H (.int ns.sum) := edI fun H1 a Q q =>
  h H1 a _ fun v H2 c hv => by
    obtain ⟨p, xs, rfl, hs, hr⟩ := dpLst hv
    have e := fvAll (ws := ns.map V.int) (by rw [List.map_map, List.map_map]; rfl) hr
    subst e
    exact ⟨p, ns, rfl, hs, q H2 c⟩
theorem enList {ds : List PyData} (h : EvD K te σ H (.list ds)) : EvN K (tCB (rListS K) (tCons te tNil)) σ H ds := fun H1 a Q q =>
  h H1 a _ fun v H2 c hv => by
    obtain ⟨p, xs, rfl, hs, hr⟩ := dpLst hv
    exact ⟨p, xs, rfl, .inl hs, fun l hl => q l _ _ (fresh_back c hl) (c.trans (Ex.new hl)) upd_same (dpsUp (Ex.new hl) hr)⟩
def rJoin (K : PySem.W.Frag) : V → List V → Hp → VK → Prop := fun x xs H Q => ∃ a p, ∃ ys : List Str, x = .str a ∧ xs = [.ref p] ∧ (SqL K H p (ys.map V.str) ∨ SqT K H p (ys.map V.str)) ∧ (ys.map (·.length)).sum + ys.length * a.length ≤ 16777216 ∧ Q (.str (Txt.join a ys)) H
theorem edJoin {a : Str} {ys : List Str} (ha : EvD K ta σ H (.str a)) (h : EvD K tb σ H (.list (ys.map .str))) (hl : (ys.map (·.length)).sum + ys.length * a.length ≤ 16777216) : EvD K (tM1 (rJoin K) ta tb) σ H (.str (Txt.join a ys)) := edS fun H1 e Q q =>
  ha H1 e _ fun v H2 b hv => ⟨⟨a, dpStr hv⟩, h H2 (e.trans b) _ fun w H3 c hw => by
    obtain ⟨p, xs, rfl, hs, hr⟩ := dpLst hw
    have e := fvAll (ws := ys.map V.str) (by rw [List.map_map, List.map_map]; rfl) hr
    subst e
    exact ⟨a, p, ys, dpStr hv, rfl, .inl hs, hl, q H3 (b.trans c)⟩⟩
def rAddS : R2 := fun x y H Q => ∃ i j, x = .str i ∧ y = .str j ∧ i.length + j.length ≤ sizeLine ∧ Q (.str (i ++ j)) H
theorem edAddS {a b : Str} (ha : EvD K ta σ H (.str a)) (hb : EvD K tb σ H (.str b)) (hl : a.length + b.length ≤ 100000) : EvD K (tOp rAddS ta tb) σ H (.str (a ++ b)) :=
  edS fun H1 e Q q => ha H1 e _ fun v H2 k hv => hb H2 (e.trans k) _ fun w H3 c hw => ⟨a, b, dpStr hv, dpStr hw, sz_of hl, q H3 (k.trans c)⟩
theorem edCutS {tl th : TO} {a : Str} {lo hi : Option Int} (h : EvD K te σ H (.str a)) (h1 : EvO tl σ H lo) (h2 : EvO th σ H hi) (hl : a.length ≤ 100000) : EvD K (tSl rSlS te tl th) σ H (.str (cutS a lo hi)) := edS fun H1 e Q q =>
  h H1 e _ fun v H2 b hv => h1 H2 (e.trans b) _ fun H3 c => h2 H3 ((e.trans b).trans c) _ fun H4 k => ⟨a, dpStr hv, sz_of hl, q H4 ((b.trans c).trans k)⟩
theorem eoI {i : Int} (h : EvD K te σ H (.int i)) : EvO (tPart te) σ H (some i) := eo_some (evI h)

/-! statements -/
variable {D : Ends} {tz tw : TS}
theorem qAsg {i : Nat} (h : EvD K te σ H d) (k : ∀ v H1, Ex H H1 → Dp K H1 v d → tz D (σ.set i (some v)) H1) : tSeq (tAsg te (gName i)) tz D σ H := h H (Ex.refl H) _ fun v H1 e hv => k v H1 e hv
theorem qAsgN {i : Nat} {ds : List PyData} (h : EvN K te σ H ds) (k : ∀ p xs H1, H p = none → Ex H H1 → H1 p = some (.lst xs) → DpAll K H1 xs ds → tz D (σ.set i (some (.ref p))) H1) : tSeq (tAsg te (gName i)) tz D σ H := h H (Ex.refl H) _ fun p xs H1 hp e h1 h2 => k p xs H1 hp e h1 h2
theorem sAsg {i : Nat} (h : EvD K te σ H d) (k : ∀ v H1, Ex H H1 → Dp K H1 v d → D.nx (σ.set i (some v)) H1) : tAsg te (gName i) D σ H := h H (Ex.refl H) _ fun v H1 e hv => k v H1 e hv
theorem sRet (h : EvD K te σ H d) (k : ∀ v H1, Ex H H1 → Dp K H1 v d → D.rt v H1) : tRet te D σ H := h H (Ex.refl H) _ k
theorem sRetN {ds : List PyData} (h : EvN K te σ H ds) (k : ∀ p xs H1, H p = none → Ex H H1 → H1 p = some (.lst xs) → DpAll K H1 xs ds → D.rt (.ref p) H1) : tRet te D σ H := h H (Ex.refl H) _ k
theorem qTup3 {i j k : Nat} {d1 d2 d3 : PyData} (h : EvD K te σ H (.tuple [d1, d2, d3])) (q : ∀ v w z H1, Ex H H1 → Dp K H1 v d1 → Dp K H1 w d2 → Dp K H1 z d3 → tz D (((σ.set i (some v)).set j (some w)).set k (some z)) H1) :
    tSeq (tAsg te (gTup K 3 (gCons (gName i) (gCons (gName j) (gCons (gName k) gNil))))) tz D σ H := h H (Ex.refl H) _ fun v H1 e hv => by
  obtain ⟨a, b, c, h1, h2, h3, hh⟩ := tgTup3 (σ1 := σ) (i := i) (j := j) (k := k) hv
  exact hh _ (q a b c H1 e h1 h2 h3)
/-- a for that leaves all objects as they are, the slots by a word -/
theorem sFor {α : Type} {tu : TS} (L : List α) (enc : α → PyData) (h : IdD K wi σ H (L.map enc)) (Iv : Nat → L2.St → Prop) (h0 : Iv 0 σ)
    (hb : ∀ H0, Ex H H0 → ∀ i a, L[i]? = some a → ∀ σ1 H1 x, Iv i σ1 → Ex H0 H1 → Dp K H1 x (enc a) → g x σ1 H1 fun σ2 H2 => tu { D with nx := fun σ' H' => Iv (i + 1) σ' ∧ Ex H0 H', ct := fun σ' H' => Iv (i + 1) σ' ∧ Ex H0 H', bk := D.nx } σ2 H2)
    (hd : ∀ σ1 H1, Iv L.length σ1 → Ex H H1 → D.nx σ1 H1) : tFor wi g tu D σ H := h H (Ex.refl H) _ fun J H1 e yl => by
  refine ⟨fun i m σ' H' => m = L.length - i ∧ i ≤ L.length ∧ Iv i σ' ∧ Ex H1 H', ⟨L.length, by omega, Nat.zero_le _, h0, Ex.refl _⟩, ?_⟩
  rintro i m σ1 H' ⟨rfl, hi, iv, ex⟩
  obtain ⟨y1, y2⟩ := yl H' ex i
  by_cases hlt : i < L.length
  · have hget : L[i]? = some L[i] := List.getElem?_eq_getElem hlt
    obtain ⟨go, yy⟩ := y1 (enc L[i]) (by rw [List.getElem?_map, hget]; rfl)
    refine .inr ⟨go, fun σ' H2 => Iv (i + 1) σ' ∧ Ex H1 H2, fun σ' H2 w => ⟨L.length - (i + 1), by omega, rfl, hlt, w.1, w.2⟩, fun x H2 hy => ?_⟩
    obtain ⟨ex2, hx⟩ := yy x H2 hy
    exact hb H1 e i L[i] hget σ1 H2 x iv (ex.trans ex2) hx
  · have ei : i = L.length := by omega
    refine .inl ⟨y2 (by rw [List.getElem?_map, List.getElem?_eq_none (by omega)]; rfl), ?_⟩
    rw [ei] at iv
    exact hd σ1 H' iv (e.trans ex)
end
end Dt

/-! Triangles, their small ones, in plain Lean. -/
namespace Dt
open PySem L2 Evl

def Code (c : Nat) : Prop := c = 97 ∨ c = 98 ∨ c = 99
structure Tri (n : Nat) (g : Nat → Nat → Nat) : Prop where
  lo : 2 ≤ n
  hi : n ≤ 100
  ok : ∀ r p, Code (g r p)
def sgn (c : Nat) : Str := ⟨#[c]⟩
def rowS (n : Nat) (g : Nat → Nat → Nat) (r : Nat) : Str := ⟨((List.range (n - r)).map (g r)).toArray⟩
def triD (n : Nat) (g : Nat → Nat → Nat) : List PyData := (List.range n).map fun r => .str (rowS n g r)
theorem rowLen (n : Nat) (g : Nat → Nat → Nat) (r : Nat) : (rowS n g r).length = n - r := by
  show ((List.range (n - r)).map (g r)).toArray.size = n - r
  rw [List.size_toArray, List.length_map, List.length_range]
theorem rowCps (n : Nat) (g : Nat → Nat → Nat) (r : Nat) : (rowS n g r).cps.toList = (List.range (n - r)).map (g r) := rfl
theorem atNat {α : Type} {l : List α} {j : Nat} {x : α} (h : l[j]? = some x) : atI l (j : Int) = some x := atI_nat h
theorem triAt {n : Nat} {g : Nat → Nat → Nat} {r : Nat} (h : r < n) : atI (triD n g) (r : Int) = some (.str (rowS n g r)) := by
  refine atNat ?_
  unfold triD
  rw [List.getElem?_map, List.getElem?_range h]
  rfl
theorem rowAt {n : Nat} {g : Nat → Nat → Nat} {r p : Nat} (h : p < n - r) : atI (rowS n g r).cps.toList (p : Int) = some (g r p) := by
  refine atNat ?_
  rw [rowCps, List.getElem?_map, List.getElem?_range h]
  rfl
theorem triNoL (n : Nat) (g : Nat → Nat → Nat) : noLs (triD n g) = true := noLs_map fun _ _ => by rw [noL]
theorem triLen (n : Nat) (g : Nat → Nat → Nat) : (triD n g).length = n := by unfold triD; rw [List.length_map, List.length_range]

/-! steps and turns -/
def eg (x y : Nat) : Int := if x = 97 ∧ y = 98 then 1 else if x = 98 ∧ y = 97 then -1 else 0
def turn3 (a b c : Nat) : Int := eg a b + eg b c + eg c a
def crn (r p u : Nat) : List (Nat × Nat) := if u = 1 then [(r, p), (r, p + 1), (r + 1, p)] else [(r, p + 1), (r + 1, p + 1), (r + 1, p)]
def trn (g : Nat → Nat → Nat) (s : Nat × Nat × Nat) : Int :=
  if s.2.2 = 1 then turn3 (g s.1 s.2.1) (g s.1 (s.2.1 + 1)) (g (s.1 + 1) s.2.1) else turn3 (g s.1 (s.2.1 + 1)) (g (s.1 + 1) (s.2.1 + 1)) (g (s.1 + 1) s.2.1)
def isSm (n : Nat) (s : Nat × Nat × Nat) : Prop := (s.2.2 = 1 ∧ s.1 + s.2.1 + 1 < n) ∨ (s.2.2 = 0 ∧ s.1 + s.2.1 + 2 < n)
def smD (s : Nat × Nat × Nat) : PyData := .tuple [.int (s.1 : Nat), .int (s.2.1 : Nat), .int (s.2.2 : Nat)]
def spD (s : Nat × Nat) : PyData := .tuple [.int (s.1 : Nat), .int (s.2 : Nat)]
/-- the small triangles at a place, in a row, all -/
def smAt (n r p : Nat) : List (Nat × Nat × Nat) := if r + p + 2 < n then [(r, p, 0), (r, p, 1)] else [(r, p, 1)]
def smRow (n r : Nat) : List (Nat × Nat × Nat) := (List.range (n - r - 1)).flatMap (smAt n r)
def smAll (n : Nat) : List (Nat × Nat × Nat) := (List.range (n - 1)).flatMap (smRow n)
theorem smAll_is {n : Nat} {s : Nat × Nat × Nat} (h : s ∈ smAll n) : isSm n s := by
  obtain ⟨r, hr, h⟩ := List.mem_flatMap.mp h
  obtain ⟨p, hp, h⟩ := List.mem_flatMap.mp h
  rw [List.mem_range] at hr hp
  unfold smAt at h
  split at h
  · rcases List.mem_cons.mp h with rfl | h
    · exact .inr ⟨rfl, by assumption⟩
    · rw [List.mem_singleton] at h
      subst h
      exact .inl ⟨rfl, by show r + p + 1 < n; omega⟩
  · rw [List.mem_singleton] at h
    subst h
    exact .inl ⟨rfl, by show r + p + 1 < n; omega⟩

/-! the count -/
/-- along row r from place 0 on, m steps -/
def along (g : Nat → Nat → Nat) (r m : Nat) : Int := ((List.range m).map fun p => eg (g r p) (g r (p + 1))).sum
theorem along_succ (g : Nat → Nat → Nat) (r m : Nat) : along g r (m + 1) = along g r m + eg (g r m) (g r (m + 1)) := by
  unfold along
  rw [List.range_succ, List.map_append, List.sum_append]
  show _ + (eg (g r m) (g r (m + 1)) + 0) = _
  omega
theorem eg_anti (x y : Nat) : eg x y = - eg y x := by
  unfold eg
  by_cases h1 : x = 97 ∧ y = 98
  · rw [if_pos h1, if_neg (by omega), if_pos (by omega)]
    rfl
  · rw [if_neg h1]
    by_cases h2 : x = 98 ∧ y = 97
    · rw [if_pos h2, if_pos (by omega)]
    · rw [if_neg h2, if_neg (by omega), if_neg (by omega)]
      rfl
def smSum (g : Nat → Nat → Nat) (l : List (Nat × Nat × Nat)) : Int := (l.map (trn g)).sum
theorem smSum_app (g : Nat → Nat → Nat) (l m : List (Nat × Nat × Nat)) : smSum g (l ++ m) = smSum g l + smSum g m := by
  unfold smSum
  rw [List.map_append, List.sum_append]
/-- the strip from place 0 on, k upright ones with the turned ones between them and, behind the last, one more where it is one -/
theorem strip (n : Nat) (g : Nat → Nat → Nat) (r : Nat) : ∀ k, k ≤ n - r - 1 → smSum g ((List.range k).flatMap (smAt n r)) =
    if k = 0 then 0 else if r + k + 1 < n then along g r k - along g (r + 1) k + eg (g r k) (g (r + 1) k) + eg (g (r + 1) 0) (g r 0)
      else along g r k - along g (r + 1) (k - 1) + eg (g r k) (g (r + 1) (k - 1)) + eg (g (r + 1) 0) (g r 0)
  | 0, _ => rfl
  | k + 1, h => by
    rw [List.range_succ, List.flatMap_append, smSum_app, strip n g r k (by omega), if_neg (Nat.succ_ne_zero k)]
    have e1 : (List.flatMap (smAt n r) [k]) = smAt n r k := by simp
    rw [e1]
    have a1 := along_succ g r k
    have a2 := along_succ g (r + 1) k
    have b1 := eg_anti (g r (k + 1)) (g (r + 1) k)
    have b2 := eg_anti (g (r + 1) (k + 1)) (g (r + 1) k)
    have b3 := eg_anti (g r k) (g (r + 1) k)
    have b4 := eg_anti (g r (k + 1)) (g (r + 1) (k + 1))
    by_cases hk : r + (k + 1) + 1 < n
    · rw [if_pos hk]
      have e2 : smAt n r k = [(r, k, 0), (r, k, 1)] := if_pos (by omega)
      have e3 : smSum g [(r, k, 0), (r, k, 1)] = (eg (g r (k + 1)) (g (r + 1) (k + 1)) + eg (g (r + 1) (k + 1)) (g (r + 1) k) + eg (g (r + 1) k) (g r (k + 1))) + ((eg (g r k) (g r (k + 1)) + eg (g r (k + 1)) (g (r + 1) k) + eg (g (r + 1) k) (g r k)) + 0) := rfl
      rw [e2, e3]
      by_cases h0 : k = 0
      · subst h0
        rw [if_pos rfl]
        have z1 : along g r 0 = 0 := rfl
        have z2 : along g (r + 1) 0 = 0 := rfl
        simp only [Nat.zero_add] at *
        omega
      · rw [if_neg h0, if_pos (by omega)]
        omega
    · rw [if_neg hk]
      have e2 : smAt n r k = [(r, k, 1)] := if_neg (by omega)
      have e3 : smSum g [(r, k, 1)] = (eg (g r k) (g r (k + 1)) + eg (g r (k + 1)) (g (r + 1) k) + eg (g (r + 1) k) (g r k)) + 0 := rfl
      rw [e2, e3, Nat.add_sub_cancel]
      by_cases h0 : k = 0
      · subst h0
        rw [if_pos rfl]
        have z1 : along g r 0 = 0 := rfl
        have z2 : along g (r + 1) 0 = 0 := rfl
        simp only [Nat.zero_add] at *
        omega
      · rw [if_neg h0, if_pos (by omega)]
        omega
def rightUp (n : Nat) (g : Nat → Nat → Nat) (k : Nat) : Int := ((List.range k).map fun r => eg (g r (n - 1 - r)) (g (r + 1) (n - 1 - (r + 1)))).sum
def leftDown (g : Nat → Nat → Nat) (k : Nat) : Int := ((List.range k).map fun r => eg (g (r + 1) 0) (g r 0)).sum
theorem rightUp_succ (n : Nat) (g : Nat → Nat → Nat) (k : Nat) : rightUp n g (k + 1) = rightUp n g k + eg (g k (n - 1 - k)) (g (k + 1) (n - 1 - (k + 1))) := by
  unfold rightUp
  rw [List.range_succ, List.map_append, List.sum_append]
  show _ + (eg (g k (n - 1 - k)) (g (k + 1) (n - 1 - (k + 1))) + 0) = _
  omega
theorem leftDown_succ (g : Nat → Nat → Nat) (k : Nat) : leftDown g (k + 1) = leftDown g k + eg (g (k + 1) 0) (g k 0) := by
  unfold leftDown
  rw [List.range_succ, List.map_append, List.sum_append]
  show _ + (eg (g (k + 1) 0) (g k 0) + 0) = _
  omega
theorem rows (n : Nat) (g : Nat → Nat → Nat) : ∀ k, k ≤ n - 1 → smSum g ((List.range k).flatMap (smRow n)) = along g 0 (n - 1) - along g k (n - 1 - k) + rightUp n g k + leftDown g k
  | 0, _ => by
    have z1 : rightUp n g 0 = 0 := rfl
    have z2 : leftDown g 0 = 0 := rfl
    show (0 : Int) = along g 0 (n - 1) - along g 0 (n - 1 - 0) + rightUp n g 0 + leftDown g 0
    rw [Nat.sub_zero]
    omega
  | k + 1, h => by
    rw [List.range_succ, List.flatMap_append, smSum_app, rows n g k (by omega)]
    have e1 : (List.flatMap (smRow n) [k]) = smRow n k := by simp
    rw [e1, rightUp_succ, leftDown_succ]
    have e2 := strip n g k (n - k - 1) (Nat.le_refl _)
    have e3 : smSum g (smRow n k) = smSum g ((List.range (n - k - 1)).flatMap (smAt n k)) := rfl
    rw [if_neg (show ¬ n - k - 1 = 0 by omega), if_neg (show ¬ k + (n - k - 1) + 1 < n by omega)] at e2
    rw [e3, e2]
    have i1 : n - k - 1 = n - 1 - k := by omega
    have i2 : n - k - 1 - 1 = n - 1 - (k + 1) := by omega
    rw [i1] at *
    have i3 : n - 1 - k - 1 = n - 1 - (k + 1) := by omega
    rw [i3]
    omega
/-- all turns together, by the side -/
theorem turnsSide (n : Nat) (g : Nat → Nat → Nat) : smSum g (smAll n) = along g 0 (n - 1) + rightUp n g (n - 1) + leftDown g (n - 1) := by
  have h := rows n g (n - 1) (Nat.le_refl _)
  rw [Nat.sub_self] at h
  have z : along g (n - 1) 0 = 0 := rfl
  unfold smAll
  omega
end Dt

/-! list(zip(xs, ys)) over two lists: a new list of new pairs. -/
namespace Zl
open PySem PySem.W PySem.Calls PyProof.Rows PyProof.V PySem.Spec

/-- the pairs that were given out stand at as -/
structure Gv (xs ys : Array Value) (lo : Addr) (h : Heap) (as : List Addr) : Prop where
  up : as.Pairwise (· < ·)
  hi : ∀ a ∈ as, lo < a
  at_ : ∀ (j : Nat) (a : Addr), as[j]? = some a → ∃ x y, xs[j]? = some x ∧ ys[j]? = some y ∧ IsPair h a x y
theorem Gv.lt {xs ys : Array Value} {lo : Addr} {h : Heap} {as : List Addr} (g : Gv xs ys lo h as) {a : Addr} (ha : a ∈ as) : a < h.objs.size := by
  obtain ⟨j, hj⟩ := List.mem_iff_getElem?.mp ha
  obtain ⟨_, _, _, _, e⟩ := g.at_ j a hj
  exact Heap.lt_size e
theorem Gv.low {xs ys : Array Value} {lo lo' : Addr} {h : Heap} {as : List Addr} (g : Gv xs ys lo h as) (hl : lo' ≤ lo) : Gv xs ys lo' h as := ⟨g.up, fun a ha => Nat.lt_of_le_of_lt hl (g.hi a ha), g.at_⟩
/-- the zip in the turn i; S the list that grows -/
def Zs (z TI TO i1 i2 l1 l2 S : Addr) (xs ys : Array Value) (i : Nat) (h : Heap) : Prop :=
  IsPair h TI (.ref i1) (.ref i2) ∧ h.IsListIter i1 l1 i ∧ h.IsListIter i2 l2 i ∧ h.IsList l1 xs ∧ h.IsList l2 ys ∧
    ((IsZip h z TI TO .none ∧ ∃ a b, IsPair h TO a b) ∨ ∃ T f oT, IsZipHeld h z TI TO T f ∧ h.get? T = some oT ∧ T ≠ z ∧ T ≠ i1 ∧ T ≠ i2 ∧ T ≠ S)
structure Ap (z TI TO i1 i2 l1 l2 S : Addr) : Prop where
  D : ZipApart z TI TO i1 i2 l1 l2
  sz : S ≠ z
  sTI : S ≠ TI
  sTO : S ≠ TO
  si1 : S ≠ i1
  si2 : S ≠ i2
  sl1 : S ≠ l1
  sl2 : S ≠ l2
theorem Zs.frame {z TI TO i1 i2 l1 l2 S : Addr} {xs ys : Array Value} {i : Nat} {h h' : Heap} (p : Ap z TI TO i1 i2 l1 l2 S) (st : Zs z TI TO i1 i2 l1 l2 S xs ys i h) (k : ∀ b o, b ≠ S → h.get? b = some o → h'.get? b = some o) : Zs z TI TO i1 i2 l1 l2 S xs ys i h' := by
  obtain ⟨a1, a2, a3, a4, a5, a6⟩ := st
  refine ⟨k _ _ p.sTI.symm a1, a2.at fun o e => k _ o p.si1.symm e, a3.at fun o e => k _ o p.si2.symm e, a4.at fun o e => k _ o p.sl1.symm e, a5.at fun o e => k _ o p.sl2.symm e, ?_⟩
  rcases a6 with ⟨b1, a, b, b2⟩ | ⟨T, f, oT, b1, b2, r1, r2, r3, r4⟩
  · exact .inl ⟨k _ _ p.sz.symm b1, a, b, k _ _ p.sTO.symm b2⟩
  · exact .inr ⟨T, f, oT, k _ _ p.sz.symm b1, k _ _ r4 b2, r1, r2, r3, r4⟩
section
variable {prog : Program} {w : World} {A : Around} {E : Value → Shared → Prop} {s : Shared} {z TI TO i1 i2 l1 l2 S : Addr} {xs ys : Array Value}
theorem zsItem {i : Nat} {Q : Option Value → Shared → Prop} (p : Ap z TI TO i1 i2 l1 l2 S) (st : Zs z TI TO i1 i2 l1 l2 S xs ys i s.heap) (hS : S < s.heap.objs.size) {x y : Value} (ex : xs[i]? = some x) (ey : ys[i]? = some y)
    (hQ : ∀ h', Zs z TI TO i1 i2 l1 l2 S xs ys (i + 1) h' → IsPair h' s.heap.objs.size x y → (∀ c o, c ≠ z → c ≠ TO → c ≠ i1 → c ≠ i2 → s.heap.get? c = some o → h'.get? c = some o) → Q (some (.ref s.heap.objs.size)) { s with heap := h' }) :
    wpAny (model prog w) A (pyNext (.ref z)) Q E s := by
  obtain ⟨a1, a2, a3, a4, a5, a6⟩ := st
  have D := p.D
  have lt : ∀ {c o}, s.heap.get? c = some o → s.heap.objs.size ≠ c := fun e => Nat.ne_of_gt (Heap.lt_size e)
  have n1 : s.heap.objs.size ≠ i1 := let ⟨_, e, _⟩ := a2; lt e
  have n2 : s.heap.objs.size ≠ i2 := let ⟨_, e, _⟩ := a3; lt e
  rcases a6 with ⟨b1, a, b, b2⟩ | ⟨T, f, oT, b1, b2, r1, r2, r3, r4⟩
  · refine wpAny_pyNext_zip_item D b1 a1 b2 a2 a3 a4 a5 ex ey fun h' c1 c2 c3 c4 c5 c6 hk => hQ h' ⟨hk _ _ D.TIz D.TITO D.TIi1 D.TIi2 a1, c3, c4, a4.at fun o e => hk _ o D.l1z D.l1TO D.l1i1 D.l1i2 e, a5.at fun o e => hk _ o D.l2z D.l2TO D.l2i1 D.l2i2 e, .inr ⟨s.heap.objs.size, false, _, c1, c5, lt b1, n1, n2, Nat.ne_of_gt hS⟩⟩ c5 hk
  · refine wpAny_pyNext_zip_item_held D b1 b2 a1 a2 a3 a4 a5 ex ey fun h' c1 c3 c4 c5 c6 hk => hQ h' ⟨hk _ _ D.TIz D.TIi1 D.TIi2 a1, c3, c4, a4.at fun o e => hk _ o D.l1z D.l1i1 D.l1i2 e, a5.at fun o e => hk _ o D.l2z D.l2i1 D.l2i2 e, .inr ⟨T, true, oT, c1, hk _ _ r1 r2 r3 b2, r1, r2, r3, r4⟩⟩ c5 fun c o d1 _ d3 d4 e => hk c o d1 d3 d4 e
theorem zsDone {i : Nat} {Q : Option Value → Shared → Prop} (hh : A.handled = none) (p : Ap z TI TO i1 i2 l1 l2 S) (st : Zs z TI TO i1 i2 l1 l2 S xs ys i s.heap) (hend : xs[i]? = none ∨ ys[i]? = none)
    (hQ : ∀ h', (∀ c o, c ≠ z → c ≠ TO → c ≠ i1 → c ≠ i2 → s.heap.get? c = some o → h'.get? c = some o) → Q none { s with heap := h' }) : wpAny (model prog w) A (pyNext (.ref z)) Q E s := by
  obtain ⟨a1, a2, a3, a4, a5, a6⟩ := st
  rcases a6 with ⟨b1, a, b, b2⟩ | ⟨T, f, oT, b1, b2, r1, r2, r3, r4⟩
  · exact wpAny_pyNext_zip_end hh p.D b1 a1 b2 a2 a3 a4 a5 hend fun h' hk => hQ h' fun c o d1 d2 d3 d4 e => hk c o d1 d2 d3 d4 e
  · exact wpAny_pyNext_zip_end_held hh p.D b1 b2 a1 a2 a3 a4 a5 hend fun h' hk => hQ h' fun c o d1 _ d3 d4 e => hk c o d1 d3 d4 e
end
section
variable {prog : Program} {w : World} {A : Around} {s : Shared} {R : Result → Shared → Prop} {z TI TO i1 i2 l1 l2 S : Addr} {xs ys : Array Value} {n : Nat}
theorem zipLoop (hh : A.handled = none) (p : Ap z TI TO i1 i2 l1 l2 S) (hn : n ≤ sizeLine) (hin : ∀ j, j < n → ∃ x y, xs[j]? = some x ∧ ys[j]? = some y) (hout : xs[n]? = none ∨ ys[n]? = none) (res : Value) {h1 : Heap} {lo : Addr} (hlz : z ≤ lo) (hlO : TO ≤ lo) (hl1 : i1 ≤ lo) (hl2 : i2 ≤ lo) (hlS : S ≤ lo)
    (hR : ∀ h' tk acc c as, (∀ b o, b ≠ S → b ≠ z → b ≠ TO → b ≠ i1 → b ≠ i2 → h1.get? b = some o → h'.get? b = some o) → h'.get? S = some { cls := .type "list", dict := none, data := .seq acc c, slots := #[] } → as.length = n → Gv xs ys lo h' as → acc.toList = as.map Value.ref → R (.ok (.ret res)) { s with heap := h', toks := tk }) :
    ∀ (k i : Nat) (h : Heap) (tk c : Nat) (acc : Array Value) (as : List Addr), n - i = k → i ≤ n → Zs z TI TO i1 i2 l1 l2 S xs ys i h → (∀ b o, b ≠ S → b ≠ z → b ≠ TO → b ≠ i1 → b ≠ i2 → h1.get? b = some o → h.get? b = some o) →
      h.get? S = some { cls := .type "list", dict := none, data := .seq acc c, slots := #[] } → acc.toList = as.map Value.ref → as.length = i → Gv xs ys lo h as → lo < h.objs.size → codeAny (model prog w) A (.builtin "list.extend.loop" ⟨[.ref S, .ref z, res], []⟩) R { s with heap := h, toks := tk } := by
  intro k
  induction k with
  | zero =>
    intro i h tk c acc as hk hi st hkp hS hacc hal hG hlo
    have ei : i = n := by omega
    subst ei
    have off : ∀ a ∈ as, a ≠ z ∧ a ≠ TO ∧ a ≠ i1 ∧ a ≠ i2 := fun a ha => by
      have q := hG.hi a ha
      exact ⟨Nat.ne_of_gt (Nat.lt_of_le_of_lt hlz q), Nat.ne_of_gt (Nat.lt_of_le_of_lt hlO q), Nat.ne_of_gt (Nat.lt_of_le_of_lt hl1 q), Nat.ne_of_gt (Nat.lt_of_le_of_lt hl2 q)⟩
    refine codeAny_builtin PySem.F.entry_extend_loop (by
      rw [Around.under_plainId PySem.F.plain_extend_loop _]
      show wpAny _ A.in1 (pyNext (.ref z) >>= _) _ _ _
      refine wpAny_bind (zsDone (s := { s with heap := h, toks := tk }) (A := A.in1) hh p st hout fun h' he => wpAny_pure (hR h' tk acc c as (fun b o b1 b2 b3 b4 b5 e => he b o b2 b3 b4 b5 (hkp b o b1 b2 b3 b4 b5 e)) (he S _ p.sz p.sTO p.si1 p.si2 hS) hal ⟨hG.up, hG.hi, fun j a hj => ?_⟩ hacc))
      obtain ⟨x, y, e1, e2, e3⟩ := hG.at_ j a hj
      obtain ⟨o1, o2, o3, o4⟩ := off a (List.mem_of_getElem? hj)
      exact ⟨x, y, e1, e2, he a _ o1 o2 o3 o4 e3⟩)
  | succ k ih =>
    intro i h tk c acc as hk hi st hkp hS hacc hal hG hlo
    have hlt : i < n := by omega
    obtain ⟨x, y, ex, ey⟩ := hin i hlt
    have hsz : acc.size = i := by rw [← Array.length_toList, hacc, List.length_map, hal]
    refine codeAny_builtin PySem.F.entry_extend_loop (by
      rw [Around.under_plainId PySem.F.plain_extend_loop _]
      show wpAny _ A.in1 (pyNext (.ref z) >>= _) _ _ _
      refine wpAny_bind (zsItem (s := { s with heap := h, toks := tk }) p st (Heap.lt_size hS) ex ey fun h' st' ht hkq => ?_)
      dsimp only at ht hkq ⊢
      have hSl : S < h.objs.size := Heap.lt_size hS
      have hS' := hkq S _ p.sz p.sTO p.si1 p.si2 hS
      have up : ∀ b o, b ≠ S → h'.get? b = some o → (h'.update S (Obj.mapSeq (·.push (Value.ref h.objs.size)))).get? b = some o := fun b o hb e => (Heap.get?_update_other _ _ (Ne.symm hb)).trans e
      have new : (h'.update S (Obj.mapSeq (·.push (Value.ref h.objs.size)))).get? h.objs.size = _ := up _ _ (Nat.ne_of_gt hSl) ht
      show wpAny _ A.in1 (updateSeq S (·.push (Value.ref h.objs.size)) >>= _) _ _ _
      refine wpAny_bind (wpAny_updateSeq hS' rfl (wpAny_pure ⟨plainId_quiet PySem.F.plain_extend_loop _, ih (i + 1) _ tk _ (acc.push (Value.ref h.objs.size)) (as ++ [h.objs.size]) (by omega) hlt (st'.frame p up) (fun b o b1 b2 b3 b4 b5 e => up b o b1 (hkq b o b2 b3 b4 b5 (hkp b o b1 b2 b3 b4 b5 e))) (Heap.get?_update_self _ hS' rfl)
        (by rw [Array.toList_push, hacc, List.map_append]; rfl) (by rw [List.length_append, hal]; rfl) ⟨?_, ?_, ?_⟩ (Nat.lt_trans hlo (Heap.lt_size new))⟩) (by rw [hsz]; omega) (by show (acc.push (Value.ref h.objs.size)).size ≤ sizeLine + 1; rw [Array.size_push, hsz]; omega))
      · refine List.pairwise_append.mpr ⟨hG.up, List.pairwise_singleton _ _, fun a ha b hb => by rw [List.mem_singleton.mp hb]; exact hG.lt ha⟩
      · intro a ha
        rcases List.mem_append.mp ha with ha | ha
        · exact hG.hi a ha
        · rw [List.mem_singleton.mp ha]; exact hlo
      · intro j b hj
        by_cases h1 : j < as.length
        · rw [List.getElem?_append_left h1] at hj
          obtain ⟨u, v, e1, e2, e3⟩ := hG.at_ j b hj
          have q := hG.hi b (List.mem_of_getElem? hj)
          exact ⟨u, v, e1, e2, up b _ (Nat.ne_of_gt (Nat.lt_of_le_of_lt hlS q)) (hkq b _ (Nat.ne_of_gt (Nat.lt_of_le_of_lt hlz q)) (Nat.ne_of_gt (Nat.lt_of_le_of_lt hlO q)) (Nat.ne_of_gt (Nat.lt_of_le_of_lt hl1 q)) (Nat.ne_of_gt (Nat.lt_of_le_of_lt hl2 q)) e3)⟩
        · have hj2 : j = as.length := by
            have q := (List.getElem?_eq_some_iff.mp hj).1
            rw [List.length_append, List.length_singleton] at q
            omega
          subst hj2
          have hb : h.objs.size = b := by simpa using hj
          subst hb
          exact ⟨x, y, by rw [hal]; exact ex, by rw [hal]; exact ey, new⟩)
end
theorem zipNoLen : typeLookup (.type "zip") "__len__" = pure none := am_miss_of_fast (by decide +kernel)
theorem zipNoHint : typeLookup (.type "zip") "__length_hint__" = pure none := am_miss_of_fast (by decide +kernel)
section
variable {prog : Program} {w : World} {A : Around} {E : Value → Shared → Prop} {s : Shared} {z TI TO i1 i2 l1 l2 : Addr} {xs ys : Array Value} {n : Nat}
theorem zipHint {Q : Bool → Shared → Prop} (hT : s.TypeIs (.ref z) "zip") (h : Q true s) : wpAny (model prog w) A (Builtin.List.listLengthHint (.ref z)) Q E s := by
  unfold Builtin.List.listLengthHint
  refine wpAny_bind (wpAny_specialOf hT zipNoLen ?_)
  show wpAny _ A (specialOf (Value.ref z) (Str.ofString "__length_hint__") >>= _) _ _ _
  exact wpAny_bind (wpAny_specialOf hT zipNoHint (wpAny_pure h))
theorem callListZip {Q : Value → Shared → Prop} (hh : A.handled = none) (D : ZipApart z TI TO i1 i2 l1 l2) (hz : IsZip s.heap z TI TO .none) (hTI : IsPair s.heap TI (.ref i1) (.ref i2)) (hTO : ∃ a b, IsPair s.heap TO a b) (h1 : s.heap.IsListIter i1 l1 0) (h2 : s.heap.IsListIter i2 l2 0) (hl1 : s.heap.IsList l1 xs) (hl2 : s.heap.IsList l2 ys)
    (hn : n ≤ sizeLine) (hin : ∀ j, j < n → ∃ x y, xs[j]? = some x ∧ ys[j]? = some y) (hout : xs[n]? = none ∨ ys[n]? = none)
    (hQ : ∀ h' tk acc c as, (∀ b o, b ≠ z → b ≠ TO → b ≠ i1 → b ≠ i2 → s.heap.get? b = some o → h'.get? b = some o) → h'.get? s.heap.objs.size = some { cls := .type "list", dict := none, data := .seq acc c, slots := #[] } → as.length = n → Gv xs ys s.heap.objs.size h' as → acc.toList = as.map Value.ref → Q (.ref s.heap.objs.size) { s with heap := h', toks := tk }) :
    wpAny (model prog w) A (call (.type "list") [.ref z]) Q E s := by
  refine callType_codes (Q₁ := fun obj t => obj = .ref s.heap.objs.size ∧ t = { s with heap := s.heap.push { cls := .type "list", data := .seq #[] } }) PySem.F.called_list (PySem.F.typeCall_list_1 _) PySem.F.entry_list_init (code_list_new _ ⟨rfl, rfl⟩) fun obj t ht => ?_
  obtain ⟨rfl, rfl⟩ := ht
  obtain ⟨u0, u1, hTO⟩ := hTO
  generalize hSe : s.heap.objs.size = S at *
  have hS0 : (s.heap.push { cls := .type "list", data := .seq #[] }).get? S = some { cls := .type "list", data := .seq #[] } := by rw [← hSe]; exact Heap.get?_push_size _ rfl
  have nS : ∀ {b o}, s.heap.get? b = some o → S ≠ b := fun e => by rw [← hSe]; exact Nat.ne_of_gt (Heap.lt_size e)
  have p : Ap z TI TO i1 i2 l1 l2 S := ⟨D, nS hz, nS hTI, nS hTO, (let ⟨_, e, _⟩ := h1; nS e), (let ⟨_, e, _⟩ := h2; nS e), (let ⟨_, e, _⟩ := hl1; nS e), (let ⟨_, e, _⟩ := hl2; nS e)⟩
  have lS : ∀ {b o}, s.heap.get? b = some o → b ≤ S := fun e => by rw [← hSe]; exact Nat.le_of_lt (Heap.lt_size e)
  have gone : ∀ {h : Heap}, (∀ b o, s.heap.get? b = some o → h.get? b = some o) → ∀ (f : Obj → Obj) (b : Addr) (o : Obj), s.heap.get? b = some o → (h.update S f).get? b = some o := fun q f b o e => (Heap.get?_update_other _ _ (nS e)).trans (q b o e)
  have k1 : ∀ b o, s.heap.get? b = some o → (s.heap.push { cls := .type "list", data := .seq #[] }).get? b = some o := fun b o e => Heap.get?_push_of_some _ e
  have ty : ∀ {h : Heap} {tk : Nat}, (∀ b o, s.heap.get? b = some o → h.get? b = some o) → ({ s with heap := h, toks := tk } : Shared).TypeIs (.ref z) "zip" := fun q => ⟨_, q _ _ hz, rfl⟩
  refine ⟨⟨_, hS0, rfl⟩, PySem.F.args_list_init_2 _ _, ?_⟩
  show wpAny _ _ (Builtin.List.listItems (.ref S) >>= fun old => Builtin.List.listUpdate (.ref S) (fun _ => #[]) >>= fun _ => letGo old.toList.reverse >>= fun _ => Builtin.List.listExtendWith (.ref S) (.ref z) .none) _ _ _
  unfold Builtin.List.listItems
  refine wpAny_bind (wpAny_bind (wpAny_seqItems hS0 rfl (wpAny_pure ?_)))
  show wpAny _ _ (updateSeq S (fun _ => #[]) >>= fun _ => letGo (#[] : Array Value).toList.reverse >>= fun _ => Builtin.List.listExtendWith (.ref S) (.ref z) .none) _ _ _
  refine wpAny_bind (wpAny_updateSeq hS0 rfl ?_)
  have hS2 := Heap.get?_update_self (Obj.mapSeq (fun _ => (#[] : Array Value))) hS0 rfl
  have k2 := gone k1 (Obj.mapSeq (fun _ => (#[] : Array Value)))
  refine wpAny_bind (wpAny_letGo ?_)
  unfold Builtin.List.listExtendWith
  refine wpAny_bind (wpAny_typeOf (ty k2) ?_)
  have f1 : Builtin.List.listSameRef (.ref S) (.ref z) = false := by simp [Builtin.List.listSameRef, p.sz]
  simp only [f1, show (Value.type "zip" == Value.type "list") = false by decide, show (Value.type "zip" == Value.type "tuple") = false by decide, Bool.or_false, Bool.false_eq_true, if_false]
  refine wpAny_bind (wpAny_pyIter_zip (k2 _ _ hz) (wpAny_bind (wpAny_holding (zipHint (ty k2) ?_))))
  show wpAny _ _ (rule "list.extend.makes-room" >>= fun _ => Builtin.List.listTouch (.ref S) >>= fun _ => again (.builtin "list.extend.loop" ⟨[.ref S, .ref z, .none], []⟩)) _ _ _
  refine wpAny_bind (wpAny_rule (wpAny_bind ?_))
  show wpAny _ _ (updateSeq S (·.push .none) >>= fun _ => updateSeq S (·.pop)) _ _ _
  refine wpAny_bind (wpAny_updateSeq hS2 rfl ?_)
  have hS3 := Heap.get?_update_self (Obj.mapSeq (·.push Value.none)) hS2 rfl
  have k3 := gone k2 (Obj.mapSeq (·.push Value.none))
  refine wpAny_updateSeq (hz := by seq_fits) hS3 rfl ?_
  have hS4 := Heap.get?_update_self (Obj.mapSeq (·.pop)) hS3 rfl
  have k4 := gone k3 (Obj.mapSeq (·.pop))
  refine wpAny_pure ⟨plainId_quiet PySem.F.plain_extend_loop _, ?_⟩
  refine zipLoop (A := A.in1) (R := wants (fun r t => r = Value.none ∧ Q (Value.ref S) t) E) (s := s) (h1 := s.heap) (lo := S) (n := n) hh p hn hin hout .none (lS hz) (lS hTO) (let ⟨_, e, _⟩ := h1; lS e) (let ⟨_, e, _⟩ := h2; lS e) (Nat.le_refl _) (fun h' tk acc c as hk hS' hl hG hacc => ⟨rfl, hQ h' tk acc c as (fun b o b2 b3 b4 b5 e => hk b o (fun q => nS e q.symm) b2 b3 b4 b5 e) hS' hl hG hacc⟩) n 0 _ _ _ #[] [] (Nat.sub_zero _) (Nat.zero_le _)
    ⟨k4 _ _ hTI, h1.at fun o e => k4 _ o e, h2.at fun o e => k4 _ o e, hl1.at fun o e => k4 _ o e, hl2.at fun o e => k4 _ o e, .inl ⟨k4 _ _ hz, _, _, k4 _ _ hTO⟩⟩ (fun b o _ _ _ _ _ e => k4 b o e) hS4 rfl rfl ⟨.nil, (fun _ q => nomatch q), (fun j a q => by simp at q)⟩ (Heap.lt_size hS4)
end
end Zl

/-! list(zip(xs, ys)) as a rule; what may be walked, a list or a tuple; a list taken apart into names. -/
namespace Dt
open PySem PySem.Spec PyProof.Rows L2 Evl

/-- new pairs at their places -/
def layP : Hp → List Addr → List (V × V) → Hp
  | H, a :: as, p :: ps => layP (upd H a (.tup [p.1, p.2])) as ps
  | H, _, _ => H
theorem layP_ne {b : Addr} : ∀ (as : List Addr) (ps : List (V × V)) (H : Hp), b ∉ as → layP H as ps b = H b
  | [], _, _, _ => rfl
  | _ :: _, [], _, _ => rfl
  | a :: as, p :: ps, H, h => by
    have z : layP (upd H a (.tup [p.1, p.2])) as ps b = upd H a (.tup [p.1, p.2]) b := layP_ne as ps _ fun q => h (List.mem_cons_of_mem _ q)
    exact z.trans (upd_ne fun q => h (by rw [q]; exact List.mem_cons_self))
theorem layP_at : ∀ (as : List Addr) (ps : List (V × V)) (H : Hp), as.Nodup → ∀ {j : Nat} {a : Addr} {p : V × V}, as[j]? = some a → ps[j]? = some p → layP H as ps a = some (.tup [p.1, p.2])
  | [], _, _, _, j, a, p, h, _ => by simp at h
  | _ :: _, [], _, _, j, a, p, _, h => by simp at h
  | b :: as, q :: ps, H, hn, 0, a, p, h1, h2 => by
    have e1 : b = a := by simpa using h1
    have e2 : q = p := by simpa using h2
    subst e1 e2
    exact (layP_ne as ps _ (List.nodup_cons.mp hn).1).trans upd_same
  | b :: as, q :: ps, H, hn, j + 1, a, p, h1, h2 => layP_at as ps _ (List.nodup_cons.mp hn).2 (j := j) (by simpa using h1) (by simpa using h2)
theorem valsRefs : ∀ as : List Addr, Vals (as.map V.ref) (as.map Value.ref)
  | [] => .nil
  | a :: as => .cons rfl (valsRefs as)
def rZipL (K : PySem.W.Frag) : List V → Hp → VK → Prop := fun vs H Q => ∃ a b xs ys, vs = [.ref a, .ref b] ∧ SqL K H a xs ∧ SqL K H b ys ∧
  ∀ (H' : Hp) (p : Addr) (ts : List Addr), Ex H H' → H p = none → H' p = some (.lst (ts.map V.ref)) → ts.length = min xs.length ys.length → (∀ (j : Nat) (t : Addr), ts[j]? = some t → ∃ x y, xs[j]? = some x ∧ ys[j]? = some y ∧ H' t = some (.tup [x, y])) → Q (.ref p) H'
def tZipL (K : PySem.W.Frag) (ta : TA) : TE := fun σ H Q => ta σ H fun vs H1 => rZipL K vs H1 Q
section
variable {X : Cx}
theorem pe_listZip {e e2 : Expr} {ta : TA} {p q pos cpos : Pos} (hc : X.calm = true) (hg : Gl X "list") (hm : X.mg "list" = none) (hgz : Gl X "zip") (hmz : X.mg "zip" = none) (ha : PA X [e, e2] ta)
    (hs : starEach [.Call (.Name "zip" q) [e, e2] [] cpos] X.env = (false, eval (.Call (.Name "zip" q) [e, e2] [] cpos) X.env) :: starEach [] X.env := by rfl)
    (hs2 : starEach [e, e2] X.env = (false, eval e X.env) :: starEach [e2] X.env := by rfl) (hpl : (backTo cpos (starEach [e2] X.env)).any (·.1) = false := by rfl) :
    PE X (.Call (.Name "list" p) [.Call (.Name "zip" q) [e, e2] [] cpos] [] pos) (tZipL X.K ta) := by
  refine ⟨fun pins s σ H Q I hq => wpAny_Call_Name_kw (ld_blt I hg hm boot_list (PyProof.Rows.callWith_type1 ?_ hs rfl))⟩
  rw [hs]
  show wpAny _ _ (spliced ((false, eval (.Call (.Name "zip" q) [e, e2] [] cpos) X.env) :: backTo pos (starEach [] X.env))) _ _ s
  refine Calls.spliced_cons (Call_ (ld_blt I hgz hmz PyProof.Rows.boot_zip (PyProof.Rows.callWith_type1 (thn (ha.run cpos pins s σ H _ I hq) fun us s1 w1 => ?_) hs2 hpl)))
  obtain ⟨vs, H1, I1, r1, a, b, xs, ys, rfl, hqx, hqy, k⟩ := w1
  obtain ⟨its, rv, px, zx⟩ := I1.list hqx
  obtain ⟨its2, rv2, py, zy⟩ := I1.list hqy
  have la : a < s1.heap.objs.size := px.lt
  have lb : b < s1.heap.objs.size := py.lt
  match us, r1 with
  | [_, _], .cons rfl (.cons rfl .nil) =>
  refine call_zip_2 px.isList py.isList fun h' hz hTI hTO h1 h2 hsz hk => Calls.spliced_nil ?_
  have D := PySem.W.ktu_apart s1.heap.objs.size a b la lb
  have lx := rv.length
  have ly := rv2.length
  have hmin : min xs.length ys.length ≤ xs.length ∧ min xs.length ys.length ≤ ys.length := ⟨Nat.min_le_left _ _, Nat.min_le_right _ _⟩
  refine Zl.callListZip (s := { s1 with heap := h' }) (n := min xs.length ys.length) (I1.ok.hd hc) D hz hTI ⟨_, _, hTO⟩ h1 h2 (px.isList.at fun o e => hk _ o e) (py.isList.at fun o e => hk _ o e) (Nat.le_trans hmin.1 zx) (fun j hj => ?_) ?_ fun h2' tk acc c as hk2 hS hl hG hacc => ?_
  · have j1 : j < its.length := by omega
    have j2 : j < its2.length := by omega
    exact ⟨its[j], its2[j], by rw [List.getElem?_toArray, List.getElem?_eq_getElem j1], by rw [List.getElem?_toArray, List.getElem?_eq_getElem j2]⟩
  · rcases Nat.le_total xs.length ys.length with z | z
    · exact .inl (by rw [List.getElem?_toArray]; exact List.getElem?_eq_none (by omega))
    · exact .inr (by rw [List.getElem?_toArray]; exact List.getElem?_eq_none (by omega))
  have nsz : ∀ {bb : Addr} {o : Obj}, s1.heap.get? bb = some o → bb < s1.heap.objs.size := fun e => Heap.lt_size e
  have old : ∀ bb o, s1.heap.get? bb = some o → h2'.get? bb = some o := fun bb o e => by
    have q := nsz e
    have q2 : ∀ k, bb ≠ s1.heap.objs.size + k := fun k => Nat.ne_of_lt (Nat.lt_of_lt_of_le q (Nat.le_add_right _ k))
    exact hk2 bb o (q2 4) (q2 3) (Nat.ne_of_lt q) (q2 1) (hk bb o e)
  have hSs : ({ s1 with heap := h' } : Shared).heap.objs.size = s1.heap.objs.size + 5 := hsz
  rw [hSs] at hS hG
  generalize hSe : s1.heap.objs.size + 5 = S at hS hG
  have hSge : s1.heap.objs.size ≤ S := by rw [← hSe]; exact Nat.le_add_right _ 5
  have hSgt : s1.heap.objs.size < S := by rw [← hSe]; exact Nat.lt_add_of_pos_right (by decide)
  have nd : as.Nodup := List.Pairwise.imp (fun {u v} (h : u < v) => Nat.ne_of_lt h) hG.up
  have nS : S ∉ as := fun z => Nat.lt_irrefl _ (hG.hi _ z)
  have new : ∀ t, s1.heap.objs.size ≤ t → H1 t = none := fun t ht => I1.hok.fresh ht
  have newT : ∀ t ∈ as, H1 t = none := fun t ht => new t (Nat.le_trans hSge (Nat.le_of_lt (hG.hi t ht)))
  have get : ∀ j t, as[j]? = some t → ∃ x y u v, xs[j]? = some x ∧ ys[j]? = some y ∧ RelV x u ∧ RelV y v ∧ IsPair h2' t u v := fun j t hj => by
    obtain ⟨u, v, e1, e2, e3⟩ := hG.at_ j t hj
    have hjl := (List.getElem?_eq_some_iff.mp hj).1
    have j1 : j < xs.length := by omega
    have j2 : j < ys.length := by omega
    obtain ⟨u', hu', ru⟩ := rv.get (List.getElem?_eq_getElem j1)
    obtain ⟨v', hv', rv'⟩ := rv2.get (List.getElem?_eq_getElem j2)
    rw [List.getElem?_toArray] at e1 e2
    rw [hu'] at e1
    rw [hv'] at e2
    cases e1
    cases e2
    exact ⟨_, _, _, _, List.getElem?_eq_getElem j1, List.getElem?_eq_getElem j2, ru, rv', e3⟩
  generalize hH' : layP (upd H1 S (.lst (as.map V.ref))) as (xs.zip ys) = H'
  have atS : H' S = some (.lst (as.map V.ref)) := by
    rw [← hH', layP_ne _ _ _ nS, upd_same]
  have atT : ∀ j t x y, as[j]? = some t → xs[j]? = some x → ys[j]? = some y → H' t = some (.tup [x, y]) := fun j t x y h1 h2 h3 => by
    rw [← hH']
    exact layP_at as (xs.zip ys) _ nd (p := (x, y)) h1 (List.getElem?_zip_eq_some.mpr ⟨h2, h3⟩)
  have off : ∀ bb, bb ∉ as → bb ≠ S → H' bb = H1 bb := fun bb h1 h2 => by rw [← hH', layP_ne _ _ _ h1, upd_ne h2]
  have ex : ∀ bb u, H1 bb = some u → H' bb = some u := fun bb u e => by
    rw [off bb (fun z => by rw [newT bb z] at e; cases e) (fun z => by rw [z, new S hSge] at e; cases e)]
    exact e
  have J : Inv X pins σ H' { s1 with heap := h2', toks := tk } := by
    refine I1.call' (ch := []) rfl ⟨fun bb o q _ _ _ => old bb o q, fun bb o q _ _ _ => ⟨o.slots, old bb o q⟩, fun bb o q n _ => ?_, fun bb o q _ => ⟨o, old bb o q⟩, fun bb vs q => ex bb _ q, fun bb o u q => ex bb _ q, fun bb ps q => ⟨#[], by rw [ex bb _ q]; simp⟩⟩ (fun bb u q => ?_) I1.bare fun bb z => by simp at z
    · have q1 := nsz q
      rw [off bb (fun z => Nat.lt_irrefl _ (Nat.lt_trans q1 (Nat.lt_trans hSgt (hG.hi bb z)))) (Nat.ne_of_lt (Nat.lt_trans q1 hSgt))]
      exact n
    · by_cases hb : bb ∈ as
      · obtain ⟨j, hj⟩ := List.mem_iff_getElem?.mp hb
        obtain ⟨x, y, u', v', e1, e2, ru, rw_, e3⟩ := get j bb hj
        rw [atT j bb x y hj e1 e2] at q
        cases q
        exact ⟨by show 2 ≤ sizeLine; decide, [u', v'], .cons ru (.cons rw_ .nil), ⟨_, e3, rfl, _, rfl⟩⟩
      · by_cases hb2 : bb = S
        · rw [hb2] at q ⊢
          rw [atS] at q
          cases q
          exact ⟨by rw [List.length_map, hl]; exact Nat.le_trans hmin.1 zx, acc.toList, c, by rw [hacc]; exact valsRefs as, by rw [Array.toArray_toList]; exact hS⟩
        · rw [off bb hb hb2] at q
          exact (I1.hok bb u q).stay (fun d v _ y => old d v y) (fun d y => ex d _ y) fun d vs y => ex d _ y
  exact ⟨.ref S, H', J, congrArg Value.ref (show h'.objs.size = S from hSs.trans hSe), k H' S as ex (new S hSge) atS hl fun j t hj => by
    obtain ⟨x, y, _, _, e1, e2, _⟩ := get j t hj
    exact ⟨x, y, e1, e2, atT j t x y hj e1 e2⟩⟩
end
section
variable {K : PySem.W.Frag} {σ : L2.St} {H H' : Hp}
theorem dpsOf : ∀ {vs : List V} {ds : List PyData}, vs.length = ds.length → (∀ (j : Nat) (v : V) (d : PyData), vs[j]? = some v → ds[j]? = some d → Dp K H v d) → DpAll K H vs ds
  | [], [], _, _ => .nil
  | [], _ :: _, h, _ => by cases h
  | _ :: _, [], h, _ => by cases h
  | v :: vs, d :: ds, h, k => .cons (k 0 v d rfl rfl) (dpsOf (Nat.succ.inj h) fun j u e h1 h2 => k (j + 1) u e (by simpa using h1) (by simpa using h2))
theorem enListZip {ta : TA} {ds es : List PyData} (h : EvAD K ta σ H [.list ds, .list es]) : EvN K (tZipL K ta) σ H (List.zipWith (fun a b => .tuple [a, b]) ds es) := fun H1 a Q q =>
  h H1 a _ fun vs H2 b hd => by
    obtain ⟨v, w, rfl, h1, h2⟩ := dps2 hd
    obtain ⟨p, xs, rfl, hs, hr⟩ := dpLst h1
    obtain ⟨p', ys, rfl, hs', hr'⟩ := dpLst h2
    refine ⟨p, p', xs, ys, rfl, hs, hs', fun H3 l ts e hl hl2 hlen ht => q l _ H3 (fresh_back b hl) (b.trans e) hl2 (dpsOf ?_ fun j v d h3 h4 => ?_)⟩
    · rw [List.length_map, List.length_zipWith, hlen, dpsLen hr, dpsLen hr']
    · rw [List.getElem?_map] at h3
      cases hj : ts[j]? with
      | none => rw [hj] at h3; cases h3
      | some t =>
        rw [hj] at h3
        cases h3
        obtain ⟨x, y, e1, e2, e3⟩ := ht j t hj
        obtain ⟨d1, k1, r1⟩ := dpsGet hr e1
        obtain ⟨d2, k2, r2⟩ := dpsGet hr' e2
        rw [List.getElem?_zipWith, k1, k2] at h4
        cases h4
        exact dpOfT e3 (.cons (dpUp e r1) (.cons (dpUp e r2) .nil))
end

/-! for x in xs, xs a list or a tuple -/
def iSeq (K : PySem.W.Frag) (tl : TE) : TI := fun σ H R => tl σ H fun x H1 => ∃ a, x = .ref a ∧ ((∃ xs, SqL K H1 a xs ∧ R (Itl K a) H1) ∨ ∃ xs, SqT K H1 a xs ∧ R (Itt K a) H1)
theorem pi_seq {X : Cx} {tg l : Expr} {tl : TE} (hl : PE X l tl) : PI X tg l (iSeq X.K tl) := by
  refine ⟨fun pins s σ H R I h => thn (hl.run pins s σ H _ I h) fun v t w => ?_⟩
  obtain ⟨x, H1, J, r1, a, rfl, c⟩ := w
  cases r1
  have own : ∀ b ∈ [t.heap.objs.size], FpOk X pins H1 b := fun b hb => by
    rw [List.mem_singleton.mp hb]
    exact J.fpOk (Nat.le_refl _) (J.hok.fresh (Nat.le_refl _))
  rcases c with ⟨xs, hq, q⟩ | ⟨xs, hq, q⟩
  · obtain ⟨its, rv, p, _⟩ := J.list hq
    exact wpAny_pyIter_list p.isList ⟨_, _, _, _, H1, rfl, J.kept (t' := t.toks) fun b o e => Heap.get?_push_of_some _ e, turn_list a _, ⟨_, Heap.get?_push_size _ rfl, rfl, rfl⟩, own, q⟩
  · obtain ⟨its, rv, p, _⟩ := J.tuple hq
    exact wpAny_pyIter_tuple (show t.heap.IsTuple a its.toArray from p) ⟨_, _, _, _, H1, rfl, J.kept (t' := t.toks) fun b o e => Heap.get?_push_of_some _ e, turn_tuple a _, ⟨_, Heap.get?_push_size _ rfl, rfl, rfl⟩, own, q⟩
section
variable {K : PySem.W.Frag} {σ : L2.St} {H H' : Hp} {te : TE}
theorem idSeqL {ds : List PyData} (h : EvD K te σ H (.list ds)) : IdD K (iSeq K te) σ H ds := fun H1 a R q =>
  h H1 a _ fun v H2 b hd => by
    obtain ⟨p, xs, rfl, hs, hr⟩ := dpLst hd
    exact ⟨p, rfl, .inl ⟨xs, hs, q _ _ b (ylL hs hr)⟩⟩
theorem idSeqT {ds : List PyData} (h : EvD K te σ H (.tuple ds)) : IdD K (iSeq K te) σ H ds := fun H1 a R q =>
  h H1 a _ fun v H2 b hd => by
    obtain ⟨p, xs, rfl, hs, hr⟩ := dpTup hd
    exact ⟨p, rfl, .inr ⟨xs, hs, q _ _ b (ylT hs hr)⟩⟩
end
end Dt

/-! Dicts whose keys are tuples of tuples: made by a comprehension, asked by in and []. -/
namespace Dt
open PySem PySem.Spec PyProof.Rows L2 Evl

section
variable {X : Cx} {pins : List (Addr × Obj)} {σ : L2.St} {H : Hp} {s : Shared}
mutual
theorem nestOf (I : Inv X pins σ H s) : ∀ (k : NestedKey) (v : V) (u : Value), Dp X.K H v k.data → RelV v u → NestedIs s.heap k u
  | .none, v, u, h, r => by
    rw [NestedKey.data] at h
    rw [dpNon h] at r
    obtain rfl : u = Value.none := r
    exact .none
  | .num i, v, u, h, r => by
    rw [NestedKey.data] at h
    rw [dpInt h] at r
    obtain ⟨t, rfl⟩ : ∃ t, u = Value.int i t := r
    exact .int i t
  | .text x, v, u, h, r => by
    rw [NestedKey.data] at h
    rw [dpStr h] at r
    obtain ⟨t, rfl⟩ : ∃ t, u = Value.str x t := r
    exact .text x t
  | .tup ks, v, u, h, r => by
    rw [NestedKey.data] at h
    obtain ⟨a, xs, rfl, hs, hr⟩ := dpTup h
    obtain rfl : u = Value.ref a := r
    obtain ⟨its, rv, ⟨o, e, hc, n, hd⟩, _⟩ := I.tuple hs
    exact .tup e hc hd (nestAll I ks xs its hr rv)
theorem nestAll (I : Inv X pins σ H s) : ∀ (ks : List NestedKey) (vs : List V) (us : List Value), DpAll X.K H vs (NestedKey.datas ks) → Vals vs us → NestedAll s.heap ks us
  | [], vs, us, h, r => by
    rw [NestedKey.datas] at h
    cases h
    cases r
    exact .nil
  | k :: ks, vs, us, h, r => by
    rw [NestedKey.datas] at h
    cases h with
    | cons h1 h2 => cases r with
      | cons r1 r2 => exact .cons (nestOf I k _ _ h1 r1) (nestAll I ks _ _ h2 r2)
end
end
mutual
theorem keyNoL : ∀ k : NestedKey, noL k.data = true
  | .none => by rw [NestedKey.data, noL]
  | .num _ => by rw [NestedKey.data, noL]
  | .text _ => by rw [NestedKey.data, noL]
  | .tup ks => by rw [NestedKey.data, noL]; exact keyNoLs ks
theorem keyNoLs : ∀ ks : List NestedKey, noLs (NestedKey.datas ks) = true
  | [] => by rw [NestedKey.datas, noLs]
  | k :: ks => by rw [NestedKey.datas, noLs, keyNoL k, keyNoLs ks]; rfl
end
/-- the dict's own object -/
def DkO (P : Program) (w : World) (D : Addr) (xs : List (NestedKey × Addr × Value)) : HO := .ext fun h => ∃ o es ep, h.get? D = some o ∧ o.ExactDict ∧ o.data = .dict es ep ∧ es.toList = xs.map (entryOfKey (nestedKind P w))
theorem dkO_ok {P : Program} {w : World} {H : Hp} {h : Heap} {D : Addr} {xs : List (NestedKey × Addr × Value)} (dd : h.DictOfH (nestedKind P w) D xs) : ObjOk P w H h D (DkO P w D xs) := by
  obtain ⟨o, es, ep, h1, h2, h3, h4, _⟩ := dd
  refine ⟨⟨o, es, ep, h1, h2, h3, h4⟩, ⟨o, h1⟩, fun g1 g2 p k => ?_⟩
  obtain ⟨o, es, ep, h1, h2, h3, h4⟩ := p
  exact ⟨o, es, ep, k o h1, h2, h3, h4⟩
abbrev DkR (K : PySem.W.Frag) (H : Hp) : NestedKey × V → NestedKey × Addr × Value → Prop := fun p q => p.1 = q.1 ∧ RelV p.2 q.2.2 ∧ p.1.depth ≤ 8 ∧ Dp K H (.ref q.2.1) p.1.data
/-- at D stands a dict of these keys and values -/
def Dk (P : Program) (w : World) (K : PySem.W.Frag) (H : Hp) (D : Addr) (kvs : List (NestedKey × V)) : Prop :=
  ∃ xs, H D = some (DkO P w D xs) ∧ kvs.length ≤ sizeLine ∧ (D == sysModules) = false ∧ (kvs.map (·.1)).Nodup ∧ Paired (DkR K H) kvs xs
theorem pairedMono {α β : Type} {F G : α → β → Prop} (k : ∀ a b, F a b → G a b) : ∀ {xs : List α} {ys : List β}, Paired F xs ys → Paired G xs ys
  | _, _, .nil => .nil
  | _, _, .cons h t => .cons (k _ _ h) (pairedMono k t)
theorem Dk.up {P : Program} {w : World} {K : PySem.W.Frag} {H H' : Hp} {D : Addr} {kvs : List (NestedKey × V)} (h : Dk P w K H D kvs) (e : Ex H H') : Dk P w K H' D kvs := by
  obtain ⟨xs, h1, h2, h3, h4, h5⟩ := h
  exact ⟨xs, e _ _ h1, h2, h3, h4, pairedMono (fun a b q => ⟨q.1, q.2.1, q.2.2.1, dpUp e q.2.2.2⟩) h5⟩
theorem dkKeys {K : PySem.W.Frag} {H : Hp} : ∀ {kvs : List (NestedKey × V)} {xs : List (NestedKey × Addr × Value)}, Paired (DkR K H) kvs xs → xs.map (·.1) = kvs.map (·.1)
  | _, _, .nil => rfl
  | _, _, .cons h t => by rw [List.map_cons, List.map_cons, h.1, dkKeys t]
theorem dkAt {K : PySem.W.Frag} {H : Hp} (k : NestedKey) : ∀ {kvs : List (NestedKey × V)} {xs : List (NestedKey × Addr × Value)}, Paired (DkR K H) kvs xs → RelO (valV kvs k) ((atKey xs k).map (·.2))
  | _, _, .nil => True.intro
  | _, _, @Paired.cons _ _ _ p q ps qs h t => by
    obtain ⟨h1, h2, _⟩ := h
    by_cases e : p.1 = k
    · have e' : q.1 = k := h1.symm.trans e
      have b : atKey (q :: qs) k = some q.2 := by simp [atKey, List.find?_cons, e']
      rw [valV_pos e, b]
      exact h2
    · have e' : ¬ q.1 = k := fun z => e (h1.trans z)
      have b : atKey (q :: qs) k = atKey qs k := by simp [atKey, List.find?_cons, e']
      rw [valV_neg e, b]
      exact dkAt k t
theorem valNone {κ : Type} [DecidableEq κ] {k : κ} : ∀ {kvs : List (κ × V)}, k ∉ kvs.map (·.1) → valV kvs k = none
  | [], _ => rfl
  | p :: r, h => by
    rw [List.map_cons, List.mem_cons, not_or] at h
    rw [valV_neg fun e => h.1 e.symm]
    exact valNone h.2
section
variable {X : Cx} {pins : List (Addr × Obj)} {σ : L2.St} {H : Hp} {s : Shared} {D : Addr} {kvs : List (NestedKey × V)}
theorem Dk.raw (I : Inv X pins σ H s) (h : Dk X.prog X.w X.K H D kvs) : ∃ xs, H D = some (DkO X.prog X.w D xs) ∧ s.heap.DictOfH (nestedKind X.prog X.w) D xs ∧ Paired (DkR X.K H) kvs xs ∧ (D == sysModules) = false ∧ kvs.length ≤ sizeLine ∧ (kvs.map (·.1)).Nodup := by
  obtain ⟨xs, h1, h2, h3, h4, h5⟩ := h
  obtain ⟨⟨o, es, ep, k1, k2, k3, k4⟩, _⟩ := I.hok D _ h1
  refine ⟨xs, h1, ⟨o, es, ep, k1, k2, k3, k4, fun x hx => ?_, by rw [dkKeys h5]; exact h4⟩, h5, h3, h2, h4⟩
  have all : ∀ {kvs : List (NestedKey × V)} {xs : List (NestedKey × Addr × Value)}, Paired (DkR X.K H) kvs xs → ∀ x ∈ xs, (nestedKind X.prog X.w).is s.heap x.1 x.2.1 := fun {kvs xs} p => by
    induction p with
    | nil => exact fun x hx => nomatch hx
    | cons h t ih =>
      intro x hx
      rcases List.mem_cons.mp hx with rfl | hx
      · obtain ⟨q1, _, q3, q4⟩ := h
        rw [q1] at q3 q4
        exact ⟨nestOf I _ _ _ q4 rfl, q3⟩
      · exact ih x hx
  exact all h5 x hx
/-- d[k] = v, k new -/
theorem dkSet {E : Value → Shared → Prop} {Q : Unit → Shared → Prop} {k : NestedKey} {a : Addr} {z : V} {u r : Value} (I : Inv X pins σ H s) (hu : X.A.units + 8 < cLine) (h : Dk X.prog X.w X.K H D kvs) (hk : Dp X.K H (.ref a) k.data) (h8 : k.depth ≤ 8) (hn : k ∉ kvs.map (·.1)) (hz : kvs.length < sizeLine) (ru : RelV (.ref a) u) (rz : RelV z r)
    (q : ∀ s' H', Inv X pins σ H' s' → (∀ b, b ≠ D → H' b = H b) → Dk X.prog X.w X.K H' D (kvs ++ [(k, z)]) → Q () s') : wpAny (model X.prog X.w) X.A (dictSet D u r) Q E s := by
  obtain rfl : u = Value.ref a := ru
  obtain ⟨xs, h1, dd, h5, h3, h2, h4⟩ := h.raw I
  have hk2 : (nestedKind X.prog X.w).is s.heap k a := ⟨nestOf I k _ _ hk rfl, h8⟩
  have hlen : kvs.length = xs.length := Paired.length h5
  refine wpAny_dictSet_heap (knd := nestedKind X.prog X.w) (show X.A.units + 8 < cLine from hu) hk2 dd (fun h' dd' hs => ?_) (by rw [← hlen]; exact Nat.le_of_lt hz)
  have kn : k ∉ xs.map (·.1) := by
    rw [dkKeys h5]
    exact hn
  have an : atKey xs k = none := by
    have q1 := dkAt k h5
    rw [valNone hn] at q1
    cases e : atKey xs k with
    | none => rfl
    | some p => rw [e] at q1; exact q1.elim
  rw [storedH_new an] at dd'
  have mu : Mut (H D) := by
    rw [h1]
    exact True.intro
  have J : Inv X pins σ (upd H D (DkO X.prog X.w D (xs ++ [(k, a, r)]))) { s with heap := h', toks := s.toks + (nestedKind X.prog X.w).draws k } := d_write I mu hs (by obtain ⟨o, _, _, e, _⟩ := dd'; exact ⟨o, e⟩) (dkO_ok dd')
  have tups : Tups H (upd H D (DkO X.prog X.w D (xs ++ [(k, a, r)]))) := fun b ys rd => by
    have hne : b ≠ D := fun e => by
      subst e
      rcases rd with rd | ⟨o, rd⟩ <;> (rw [h1] at rd; cases rd)
    rcases rd with rd | ⟨o, rd⟩
    · exact .inl ((upd_ne hne).trans rd)
    · exact .inr ⟨o, (upd_ne hne).trans rd⟩
  refine q _ _ J (fun b hb => upd_ne hb) ⟨_, upd_same, ?_, h3, ?_, ?_⟩
  · rw [List.length_append, List.length_singleton]
    exact hz
  · rw [List.map_append, List.nodup_append]
    refine ⟨h4, by simp, fun x hx y hy => ?_⟩
    rw [List.map_singleton, List.mem_singleton] at hy
    have hy : y = k := hy
    exact fun e => hn (by rw [← hy, ← e]; exact hx)
  · exact (pairedMono (fun p q z => ⟨z.1, z.2.1, z.2.2.1, dpTups tups z.2.2.2 (keyNoL _)⟩) h5).snoc ⟨rfl, rz, h8, dpTups tups hk (keyNoL _)⟩
end
/-- x in d, x not in d -/
def rInK (P : Program) (w : World) (K : PySem.W.Frag) (neg : Bool) : R2 := fun x y H Q => ∃ (D a : Addr) (kvs : List (NestedKey × V)) (k : NestedKey), x = .ref a ∧ y = .ref D ∧ Dk P w K H D kvs ∧ k.depth ≤ 8 ∧ Dp K H (.ref a) k.data ∧ Q (.bl (if neg then !(valV kvs k).isSome else (valV kvs k).isSome)) H
/-- d[x] -/
def rIxK (P : Program) (w : World) (K : PySem.W.Frag) : R2 := fun x y H Q => ∃ (D a : Addr) (kvs : List (NestedKey × V)) (k : NestedKey) (v : V), x = .ref D ∧ y = .ref a ∧ Dk P w K H D kvs ∧ k.depth ≤ 8 ∧ Dp K H (.ref a) k.data ∧ valV kvs k = some v ∧ Q v H
section
variable {X : Cx}
theorem op_notInK (hu : X.A.units + 10 < cLine) : OpR X (compareOp .NotIn) (rInK X.prog X.w X.K true) := by
  intro pins s σ H x y v u Q I rx ry h
  obtain ⟨D, a, kvs, k, rfl, rfl, hd, h8, hk, q⟩ := h
  obtain rfl : v = Value.ref a := rx
  obtain rfl : u = Value.ref D := ry
  obtain ⟨xs, h1, dd, h5, h3, h2, h4⟩ := hd.raw I
  show wpAny _ _ (contains (.ref D) (.ref a) >>= fun b => pure (Value.bool (!b))) _ X.xe s
  have e : (atKey xs k).isSome = (valV kvs k).isSome := by
    have q1 := RelO.isSome_eq (dkAt k h5)
    rw [q1, Option.isSome_map]
  refine wpAny_bind (wpAny_contains_heap (knd := nestedKind X.prog X.w) (show X.A.units + 1 + 8 < cLine by omega) ⟨nestOf I k _ _ hk rfl, h8⟩ h3 dd (wpAny_pure ⟨_, H, I.tok _, ?_, q⟩))
  show Value.bool (!(atKey xs k).isSome) = Value.bool _
  rw [e]
  rfl
theorem ix_K (hu : X.A.units + 10 < cLine) : IxR X (rIxK X.prog X.w X.K) := by
  intro value slice pins s σ H x y v u Q I rx ry h hs
  obtain ⟨D, a, kvs, k, z, rfl, rfl, hd, h8, hk, hv, q⟩ := h
  obtain rfl : v = Value.ref D := rx
  obtain rfl : u = Value.ref a := ry
  obtain ⟨xs, h1, dd, h5, h3, h2, h4⟩ := hd.raw I
  obtain ⟨w', hw, rw'⟩ := RelO.some_of (v := z) (o := (atKey xs k).map (·.2)) (by rw [← hv]; exact dkAt k h5)
  obtain ⟨p, hp, hp2⟩ := Option.map_eq_some_iff.mp hw
  refine subscriptTail_builtinR (x := w') dd.typeIs PySem.F.slot_dict_getitem.lookup (wpAny_getItem_heap (knd := nestedKind X.prog X.w) (show X.A.units + 1 + 8 < cLine by omega) ⟨nestOf I k _ _ hk rfl, h8⟩ dd hp ?_) hs
  rw [hp2]
  exact ⟨rfl, z, H, I.tok _, rw', q⟩
end
end Dt

/-! {k: v for ..}, the keys tuples of tuples. -/
namespace Dt
open PySem PySem.Spec PyProof.Rows L2 Evl

/-- {k: v for target in iter}: D the new dict -/
def tDcK (P : Program) (w : World) (K : PySem.W.Frag) (wi : TI) (g : TG) (tk tv : TE) (vs : List Nat) : TE := fun σ H Q => wi σ H fun J H1 => ∀ D H2, H1 D = none → Ex H1 H2 → Dk P w K H2 D [] → ∃ W : Nat → Nat → Hp → Prop, (∃ m, W 0 m H2) ∧ ∀ i m H, W i m H →
  (J.stop i H ∧ Q (.ref D) H) ∨ (J.go i H ∧ ∃ Nx : Hp → Prop, (∀ H', Nx H' → ∃ m', m' < m ∧ W (i + 1) m' H') ∧ ∀ x H', J.yld i H x H' → g x (wipe σ vs) H' fun σ2 H3 => wipe σ2 vs = wipe σ vs ∧ tk σ2 H3 fun y H4 => tv σ2 H4 fun z H5 =>
    ∃ (kvs : List (NestedKey × V)) (k : NestedKey) (a : Addr), y = .ref a ∧ Dk P w K H5 D kvs ∧ Dp K H5 (.ref a) k.data ∧ k.depth ≤ 8 ∧ k ∉ kvs.map (·.1) ∧ kvs.length < sizeLine ∧ ∀ H6, (∀ b, b ≠ D → H6 b = H5 b) → Dk P w K H6 D (kvs ++ [(k, z)]) → Nx H6)
section
variable {X : Cx} {kx vx tg iter : Expr} {scope : Scope} {own : List (Str × Nat)} {wi : TI} {g : TG} {tk tv : TE}
theorem dcKCore {pins : List (Addr × Obj)} {s : Shared} {σ : L2.St} {H : Hp} {Q : VK} {pos pos' : Pos} {use : Option (Value → Sem Unit)} {Qf : Value → Shared → Prop} (calm : X.calm = true) (nod : X.N.Nodup) (I : Inv X pins σ H s) (hu : X.A.units + 8 < cLine) (hi : PI X tg iter wi) (ok : BlkOk X.N X.env.scope scope own)
    (hg : ∀ (s : Shared) (H : Hp) (C : Addr) (cl : List (Str × Addr)) (fp : List Addr), PG (X.blk s H scope (compEnvC scope cl C X.env) fp) tg g) (hk : ∀ (s : Shared) (H : Hp) (C : Addr) (cl : List (Str × Addr)) (fp : List Addr), PE (X.blk s H scope (compEnvC scope cl C X.env) fp) kx tk) (hv : ∀ (s : Shared) (H : Hp) (C : Addr) (cl : List (Str × Addr)) (fp : List Addr), PE (X.blk s H scope (compEnvC scope cl C X.env) fp) vx tv)
    (fold : ∀ x, foldedSetIterable iter X.env x = pure x) (h : tDcK X.prog X.w X.K wi g tk tv (own.map (·.2)) σ H Q)
    (fin : ∀ D C s' m H', Inv X pins σ H' s' → Q (.ref D) H' → s'.heap.Ns C m → FpOk X pins H' C → compPost (model X.prog X.w) X.A X.xe use Qf (.ref D) C (.ok .next) s') :
    wpAny (model X.prog X.w) X.A (comprehension (.DictComp kx vx [⟨tg, iter, [], 0⟩] scope pos) scope X.env pos' newDict false (eval iter X.env) use) Qf X.xe s := by
  have frees : ∀ y ∈ scope.names, y.2 = .free → ∃ c, X.env.cells.lookup y.1 = some c := fun y hy e => (ok.free y hy e).elim (fun z => I.ok.has _ (.inl z)) fun z => I.ok.has _ (.inr z)
  refine wpAny_comprehension_free (use := use) rfl fold (closure_ok frees) ok.kind (fun y hy e => by rw [ok.uniq y hy, e]) (thn (hi.run pins s σ H _ I h) fun xv t1 hx => thn hx fun itv t2 h2 => ?_)
  obtain ⟨it, fp, tn, J, Hw, rfl, I2, T, st2, f2, q⟩ := h2
  refine wpAny_newObj_type (newEnv_comp ?_)
  generalize hD : t2.heap.objs.size = D
  have free : Hw D = none := I2.hok.fresh (Nat.le_of_eq hD)
  have dd0 : (t2.heap.push { cls := .type "dict", data := .dict #[] }).DictOfH (nestedKind X.prog X.w) D [] := by rw [← hD]; exact Heap.DictOfH.new _
  have dsys : (D == sysModules) = false := by rw [← hD]; exact beq_eq_false_iff_ne.mpr (Ne.symm (Nat.ne_of_lt I2.big))
  obtain ⟨W, ⟨m0, w0⟩, turn⟩ := q D (upd Hw D (DkO X.prog X.w D [])) free (Ex.new free) ⟨[], upd_same, Nat.zero_le _, dsys, List.nodup_nil, .nil⟩
  generalize ht3 : ({ t2 with heap := t2.heap.push { cls := .type "dict", data := .dict #[] } } : Shared) = t3
  have hp3 : t3.heap = t2.heap.push { cls := .type "dict", data := .dict #[] } := by rw [← ht3]
  have I3 : Inv X pins σ (upd Hw D (DkO X.prog X.w D [])) t3 := by
    rw [← ht3]
    exact I2.laid (t' := t2.toks) (fun b o e => Heap.get?_push_of_some _ e) (Nat.le_of_eq hD) (dkO_ok dd0)
  have low : ∀ b ∈ fp, b < t2.heap.objs.size := fun b hb => let ⟨_, e, _⟩ := T.obj _ _ st2 b hb; Heap.lt_size e
  have f3 : ∀ b ∈ fp, FpOk X pins (upd Hw D (DkO X.prog X.w D [])) b ∧ b < t3.heap.objs.size := fun b hb => ⟨⟨(upd_ne (by rw [← hD]; exact Nat.ne_of_lt (low b hb))).trans (f2 b hb).1, (f2 b hb).2⟩, by rw [hp3, Heap.size_push]; exact Nat.lt_succ_of_lt (low b hb)⟩
  have st3 : tn 0 t3.heap := T.keep _ _ _ st2 fun b _ o e => by rw [hp3]; exact Heap.get?_push_of_some _ e
  have I4 := block_start I3 ok nod f3
  generalize hcl : cellsFrom (t3.heap.objs.size + 1) scope.names (cloFrom X.env.cells scope.names []) = cl at I4
  generalize hH3 : upd Hw D (DkO X.prog X.w D []) = H3 at I3 I4 w0 f3
  have pg := hg t3 H3 t3.heap.objs.size cl fp
  have pk := hk t3 H3 t3.heap.objs.size cl fp
  have pv := hv t3 H3 t3.heap.objs.size cl fp
  show codeAny _ _ (.compStart (.DictComp kx vx [⟨tg, iter, [], 0⟩] scope pos) 0 (.ref it) (.ref D) (compEnvC scope cl t3.heap.objs.size X.env)) (compPost (model X.prog X.w) X.A X.xe use Qf (.ref D) t3.heap.objs.size) { t3 with heap := pushCells (t3.heap.push { cls := .type "dict", data := .dict #[] }) scope.names }
  have nofp : ∀ b ∈ fp, H3 b = none := fun b hb => (f3 b hb).1.1
  generalize hce : compEnvC scope cl t3.heap.objs.size X.env = ce at I4 pg pk pv ⊢
  have cL : ce.locals = t3.heap.objs.size := by subst hce; rfl
  generalize ht4 : ({ t3 with heap := pushCells (t3.heap.push { cls := .type "dict", data := .dict #[] }) scope.names } : Shared) = t4 at I4 ⊢
  have st4 : tn 0 t4.heap := T.keep _ _ _ st3 fun b _ o e => by rw [← ht4]; exact pushCells_keeps _ _ _ _ (Heap.get?_push_of_some _ e)
  have stat : ∀ {σ' : L2.St} {H' : Hp} {s' : Shared}, Inv (X.blk t3 H3 scope ce fp) [] σ' H' s' → (∀ b ∈ fp, H' b = none) → ∀ b ∈ fp, FpOk (X.blk t3 H3 scope ce fp) [] H' b := fun {σ' H' s'} J' hn b hb => ⟨hn b hb, (J'.ok.exf b hb).1, J'.ok.exfs b hb, .inl hb, fun x c e => (J'.ok.exf b hb).2 x c e, fun p hp => absurd (show p ∈ ([] : List (Addr × Obj)) ++ [] from hp) (by simp)⟩
  have turns : codeAny (model X.prog X.w) X.A (.compLoop (.DictComp kx vx [⟨tg, iter, [], 0⟩] scope pos) 0 (.ref it) (.ref D) ce) (compPost (model X.prog X.w) X.A X.xe use Qf (.ref D) t3.heap.objs.size) t4 := ?loop
  exact codeAny_compStart_dict turns (T.self X.A 0 _ _ _ st4 turns)
  refine compLoop_anyD (fun n s' => ∃ i H', Inv (X.blk t3 H3 scope ce fp) [] (wipe σ (own.map (·.2))) H' s' ∧ tn i s'.heap ∧ (∀ b ∈ fp, H' b = none) ∧ W i n H') (fun n s5 w5 => ?_) m0 ⟨0, H3, I4, st4, nofp, w0⟩
  · obtain ⟨i, H5, I5, st5, n5, w5⟩ := w5
    rcases turn i n H5 w5 with ⟨stop, qq⟩ | ⟨go, Nx, hNx, step⟩
    · refine thnF (T.done (X.blk t3 H3 scope ce fp) rfl rfl rfl calm i [] s5 _ H5 (fun _ _ => False) I5 (stat I5 n5) st5 stop) fun r s6 ⟨hr, I6⟩ => ?_
      subst hr
      have I7 : Inv X pins σ H5 s6 := I3.call' (ch := fp) I6.os I6.base I6.hok I6.bare fun b hb => let z := (f3 b hb).1.2; ⟨z.2.2.1, z.1, z.2.2.2.1, z.2.2.2.2⟩
      have nC : H5 t3.heap.objs.size = none := by rw [← cL]; exact I6.free
      obtain ⟨m, hn, _⟩ := I6.loc
      exact fin D t3.heap.objs.size s6 m H5 I7 qq (by rw [← cL]; exact hn) (I3.fpOk (Nat.le_refl _) nC)
    · refine thnF (T.item (X.blk t3 H3 scope ce fp) rfl rfl rfl calm i [] s5 _ H5 (fun _ _ => False) I5 (stat I5 n5) st5 go) fun r s6 ⟨u, hr, h6⟩ => ?_
      subst hr
      refine thnF h6 fun _ s7 ⟨x, H7, I7, r7, y7, st7, n7⟩ => ?_
      refine thnF (pg.run _ s7 _ H7 x u _ (I7.pinned (stat I7 n7) (T.obj _ _ st7)) r7 (step x H7 y7)) fun _ s8 ⟨σ8, H8, I8, hw8, q8⟩ => ?_
      show wpAny _ _ (pure true) _ _ s8
      refine wpAny_pure ?_
      show wpAny _ _ (eval kx ce) _ _ s8
      refine thnF (pk.run _ s8 σ8 H8 _ I8 q8) fun u1 s10 ⟨yk, H10, I10, r10, q10⟩ => ?_
      refine thnF (pv.run _ s10 σ8 H10 _ I10 q10) fun u2 s11 ⟨yv, H11, I11, r11, kvs, k, a, ek, hDk, hkd, h8, hnk, hz, nx⟩ => ?_
      subst ek
      refine dkSet (X := X.blk t3 H3 scope ce fp) I11 hu hDk hkd h8 hnk hz r10 r11 fun s12 H12 I12 same dk12 => ?_
      obtain ⟨m', hm, w'⟩ := hNx H12 (nx H12 same dk12)
      have pin' : ∀ b ∈ fp, ∀ o, s7.heap.get? b = some o → s12.heap.get? b = some o ∧ H12 b = none := fun b hb o e => let z := I12.pin (b, o) (List.mem_append_right _ (List.mem_append_right _ (mem_pinsAt hb e))); ⟨z.1, z.2.1⟩
      refine ⟨m', hm, i + 1, H12, (I12.unpinned (pins := [])).weak (by rw [← hw8, wipe_length]) (fun j v e => by rw [← hw8] at e; exact (wipe_some e).1), T.keep _ _ _ st7 fun b hb o e => (pin' b hb o e).1, fun b hb => ?_, w'⟩
      obtain ⟨o, e, _⟩ := T.obj _ _ st7 b hb
      exact (pin' b hb o e).2
/-- y = {..} on one line, y a local -/
theorem ps_setDcK {i : Nat} {y : Str} {py pos spos : Pos} (calm : X.calm = true) (nod : X.N.Nodup) (hy : X.N[i]? = some y) (hyl : X.env.scope.names.lookup y = some .local) (hu : X.A.units + 8 < cLine)
    (hsw : swapsWith (.DictComp kx vx [⟨tg, iter, [], 0⟩] scope pos) (some (.Name y py)) spos.line X.env = pure true) (hi : PI X tg iter wi) (ok : BlkOk X.N X.env.scope scope own)
    (hg : ∀ (s : Shared) (H : Hp) (C : Addr) (cl : List (Str × Addr)) (fp : List Addr), PG (X.blk s H scope (compEnvC scope cl C X.env) fp) tg g) (hk : ∀ (s : Shared) (H : Hp) (C : Addr) (cl : List (Str × Addr)) (fp : List Addr), PE (X.blk s H scope (compEnvC scope cl C X.env) fp) kx tk) (hv : ∀ (s : Shared) (H : Hp) (C : Addr) (cl : List (Str × Addr)) (fp : List Addr), PE (X.blk s H scope (compEnvC scope cl C X.env) fp) vx tv)
    (fold : ∀ x, foldedSetIterable iter X.env x = pure x := by intro _; rfl) :
    PS X (.Assign [.Name y py] (.DictComp kx vx [⟨tg, iter, [], 0⟩] scope pos) spos) (tAsg (tDcK X.prog X.w X.K wi g tk tv (own.map (·.2))) (gName i)) := by
  refine ⟨fun pins s σ H D I h => ?_⟩
  rw [exec_Assign_Name_used _ _ _ _ hsw]
  refine wpAny_bind (wpAny_standAt (wpAny_bind ?_))
  show wpAny _ X.A (do let _ ← comprehension (.DictComp kx vx [⟨tg, iter, [], 0⟩] scope pos) scope X.env (firstIterPos [⟨tg, iter, [], 0⟩] pos) newDict false (eval iter X.env) (some (assign (.Name y py) X.env))) _ _ s
  refine wpAny_bind (thn (dcKCore (Q := fun x H1 => gName i x σ H1 D.nx) (Qf := fun _ s' => SP X pins D .next s') calm nod I hu hi ok hg hk hv fold h fun L C s' m H' J qq hn f => ?_) fun _ s' hq => wpAny_pure (wpAny_pure hq))
  show wpAny _ _ (assign (.Name y py) X.env (.ref L)) _ _ _
  obtain ⟨f0, f1, f2, f3, f4, f5⟩ := f
  refine wpAny_assign_Name (store_ok2 (v := V.ref L) J nod hy (.inl hyl) rfl (fun s2 I2 ⟨a, sb, ha⟩ => ⟨m, hn.sameBut sb ?_, fun h3 sb3 => ⟨_, H', I2.turned (t' := s2.toks) (fun b o hb e => (sb3.2 b hb).trans e) f0 f1 f3 f4 f5, qq⟩⟩) (.inr hyl))
  rcases ha with z | z
  · rw [z]; exact f1
  · exact fun e => f4 y a z e.symm
theorem swDict {gs : List Comprehension} {pos py : Pos} {y : Str} {l : Nat} {env : Env} (hk : env.scope.kind = .function) (hy : env.scope.names.lookup y = some .local) (hl : (py.line == pos.line) = true)
    (ha : (scope.names.any fun (n, k) => n == y && (k == .local || k == .cell)) = false) : swapsWith (.DictComp kx vx gs scope pos) (some (.Name y py)) l env = pure true := by
  have e1 : env.kindOf y = some .local := hy
  have e2 : env.blockKind = .function := by unfold Env.blockKind; rw [hk]; rfl
  unfold swapsWith
  simp only [e2, e1, ha, Expr.pos, hl]
  rfl
end
/-! by data -/
section
variable {P : Program} {w : World} {K : PySem.W.Frag} {σ : L2.St} {H H' : Hp} {wi : TI} {g : TG} {tk tv : TE} {D : Ends} {tz : TS}
/-- y = {key: value for ..}: the keys apart -/
theorem qDcK {α : Type} (L : List α) (enc : α → PyData) (kf : α → NestedKey) (vf : α → V) {vs : List Nat} {i : Nat} (h : IdD K wi σ H (L.map enc)) (hz : L.length ≤ 100000) (nd : (L.map kf).Nodup) (h8 : ∀ a ∈ L, (kf a).depth ≤ 8) (htup : ∀ a ∈ L, ∃ ks, kf a = .tup ks)
    (hb : ∀ a ∈ L, ∀ H1 x, Ex H H1 → Dp K H1 x (enc a) → ∃ σ2, (∀ Q : L2.St → Hp → Prop, Q σ2 H1 → g x (wipe σ vs) H1 Q) ∧ wipe σ2 vs = wipe σ vs ∧ EvD K tk σ2 H1 (kf a).data ∧ Ev tv σ2 H1 (vf a))
    (k : ∀ p H1, H p = none → Ex H H1 → Dk P w K H1 p (L.map fun a => (kf a, vf a)) → tz D (σ.set i (some (.ref p))) H1) : tSeq (tAsg (tDcK P w K wi g tk tv vs) (gName i)) tz D σ H := h H (Ex.refl H) _ fun J H2 e2 yl => by
  intro q H3 hq e3 dk0
  refine ⟨fun i m H' => m = L.length - i ∧ i ≤ L.length ∧ Ex H2 H' ∧ Dk P w K H' q ((L.take i).map fun a => (kf a, vf a)), ⟨L.length, by omega, Nat.zero_le _, e3, dk0⟩, ?_⟩
  rintro i m H' ⟨rfl, hi, ex, dk⟩
  obtain ⟨y1, y2⟩ := yl H' ex i
  by_cases hlt : i < L.length
  · have hget : L[i]? = some L[i] := List.getElem?_eq_getElem hlt
    have hm : L[i] ∈ L := List.getElem_mem hlt
    obtain ⟨go, yy⟩ := y1 (enc L[i]) (by rw [List.getElem?_map, hget]; rfl)
    refine .inr ⟨go, fun H6 => Ex H2 H6 ∧ Dk P w K H6 q ((L.take (i + 1)).map fun a => (kf a, vf a)), fun H6 z => ⟨L.length - (i + 1), by omega, rfl, hlt, z.1, z.2⟩, fun x H4 hy => ?_⟩
    obtain ⟨ex4, hx⟩ := yy x H4 hy
    obtain ⟨σ2, hg, hw, hk, hv⟩ := hb L[i] hm H4 x ((e2.trans ex).trans ex4) hx
    refine hg _ ⟨hw, hk H4 (Ex.refl _) _ fun y H5 ex5 hy5 => hv H5 ex5 _ fun H6 ex6 => ?_⟩
    obtain ⟨ks, eks⟩ := htup L[i] hm
    have hy6 := dpUp ex6 hy5
    obtain ⟨a, rfl⟩ : ∃ a, y = V.ref a := by
      rw [eks, NestedKey.data] at hy5
      obtain ⟨a, _, rfl, _⟩ := dpTup hy5
      exact ⟨a, rfl⟩
    have ex46 := (ex4.trans ex5).trans ex6
    refine ⟨_, kf L[i], a, rfl, dk.up ex46, hy6, h8 _ hm, ?_, ?_, fun H7 same dk7 => ⟨fun b o e => ?_, ?_⟩⟩
    · intro hin
      rw [List.map_map] at hin
      obtain ⟨b, hb1, hb2⟩ := List.mem_map.mp hin
      obtain ⟨j, hj⟩ := List.mem_iff_getElem?.mp hb1
      rw [List.getElem?_take] at hj
      split at hj
      · rename_i hji
        have hj2 : (L.map kf)[j]? = (L.map kf)[i]? := by
          rw [List.getElem?_map, List.getElem?_map, hj, hget]
          exact congrArg some hb2
        have hjl : j < (L.map kf).length := by rw [List.length_map]; omega
        have := (List.getElem?_inj hjl nd).mp hj2
        omega
      · cases hj
    · rw [List.length_map]
      exact Nat.lt_of_le_of_lt (List.length_take_le _ _) (sz_lt (n := i) (by omega))
    · have hbq : b ≠ q := fun z => by
        rw [z, hq] at e
        cases e
      rw [same b hbq]
      exact ex46 _ _ (ex _ _ e)
    · rw [List.take_add_one, hget, List.map_append]
      exact dk7
  · have ei : i = L.length := by omega
    rw [ei, List.take_length] at dk
    exact .inl ⟨y2 (by rw [List.getElem?_map, List.getElem?_eq_none (by omega)]; rfl), k q H' (fresh_back e2 hq) (e2.trans ex) dk⟩
/-- x not in d | d[x] -/
theorem etNotInK {ta tb : TE} {p : Addr} {kvs : List (NestedKey × V)} {ks : List NestedKey} {j : Nat} (ha : EvD K ta σ H (NestedKey.tup ks).data) (h8 : (NestedKey.tup ks).depth ≤ 8) (hj : σ[j]? = some (some (.ref p))) (hd : Dk P w K H p kvs) : Ev (tOp (rInK P w K true) ta (tVar j)) σ H (.bl (!(valV kvs (NestedKey.tup ks)).isSome)) := fun H1 e Q q =>
  ha H1 e _ fun x H2 e2 hx => ⟨.ref p, hj, by
    have hx2 := hx
    rw [NestedKey.data] at hx2
    obtain ⟨a, _, rfl, _⟩ := dpTup hx2
    exact ⟨p, a, kvs, _, rfl, rfl, hd.up (e.trans e2), h8, hx, q H2 e2⟩⟩
theorem evIxK {tb : TE} {p : Addr} {kvs : List (NestedKey × V)} {ks : List NestedKey} {j : Nat} {v : V} (hb : EvD K tb σ H (NestedKey.tup ks).data) (h8 : (NestedKey.tup ks).depth ≤ 8) (hj : σ[j]? = some (some (.ref p))) (hd : Dk P w K H p kvs) (hv : valV kvs (NestedKey.tup ks) = some v) : Ev (tOp (rIxK P w K) (tVar j) tb) σ H v := fun H1 e Q q =>
  ⟨.ref p, hj, hb H1 e _ fun x H2 e2 hx => by
    have hx2 := hx
    rw [NestedKey.data] at hx2
    obtain ⟨a, _, rfl, _⟩ := dpTup hx2
    exact ⟨p, a, kvs, _, v, rfl, rfl, hd.up (e.trans e2), h8, hx, hv, q H2 e2⟩⟩
end
end Dt

/-! Rules of data, the first part. -/
namespace Dt
open PySem L2 Evl PyProof.Rows
open PySem L2 Evl PyProof.Rows

section
variable {X : Cx}
theorem call_lenR : CallR X (.builtin "len") (lenR X.K) := call_len
theorem call_listR : CallR X (.type "list") (rListS X.K) := call_list_of
theorem op_addS : OpR X (binaryOp .Add) rAddS := op_add_str
theorem pe_joinR {o e : Expr} {to te : TE} {apos pos : Pos} (ho : PE X o to) (he : PE X e te) (hbase : attributeBase o "join" X.env (eval o X.env) = eval o X.env := by rfl) (hline : (apos.endLine == pos.line) = true := by rfl)
    (hs : starEach [e] X.env = [(false, eval e X.env)] := by rfl) : PE X (.Call (.Attribute o "join" apos) [e] [] pos) (tM1 (rJoin X.K) to te) := pe_join ho he hs hbase hline
end
section
variable {K : PySem.W.Frag} {σ : L2.St} {H H' : Hp} {ta tb te tx : TE} {t u : TT} {d e : PyData}
theorem edEqI {i j : Int} (ha : EvD K ta σ H (.int i)) (hb : EvD K tb σ H (.int j)) : EvD K (tOp (rEqD K) ta tb) σ H (.bool (decide (i = j))) := edB (ev_is (evEq ha hb rfl rfl) (by
  unfold PyData.eqv
  rfl))
theorem edNeI {i j : Int} (ha : EvD K ta σ H (.int i)) (hb : EvD K tb σ H (.int j)) : EvD K (tOp (rNeD K) ta tb) σ H (.bool (!decide (i = j))) := edB (ev_is (evNe ha hb rfl rfl) (by
  unfold PyData.eqv
  rfl))
theorem edLt {i j : Int} (ha : EvD K ta σ H (.int i)) (hb : EvD K tb σ H (.int j)) : EvD K (tOp (rI0 fun i j => .bl (decide (i < j))) ta tb) σ H (.bool (decide (i < j))) := edB (ev_op (evI ha) (evI hb) rv_I0)
theorem edGt {i j : Int} (ha : EvD K ta σ H (.int i)) (hb : EvD K tb σ H (.int j)) : EvD K (tOp (rI0 fun i j => .bl (decide (j < i))) ta tb) σ H (.bool (decide (j < i))) := edB (ev_op (evI ha) (evI hb) rv_I0)
theorem edLe {i j : Int} (ha : EvD K ta σ H (.int i)) (hb : EvD K tb σ H (.int j)) : EvD K (tOp (rI0 fun i j => .bl (decide (i ≤ j))) ta tb) σ H (.bool (decide (i ≤ j))) := edB (ev_op (evI ha) (evI hb) rv_I0)
theorem edGe {i j : Int} (ha : EvD K ta σ H (.int i)) (hb : EvD K tb σ H (.int j)) : EvD K (tOp (rI0 fun i j => .bl (decide (j ≤ i))) ta tb) σ H (.bool (decide (j ≤ i))) := edB (ev_op (evI ha) (evI hb) rv_I0)
theorem edAnd {a b : Bool} (h1 : EvD K ta σ H (.bool a)) (h2 : a = true → EvD K tb σ H (.bool b)) : EvD K (tAndV ta tb) σ H (.bool (a && b)) := edB (ev_andV (evB h1) fun h => evB (h2 h))
theorem edNot {a : Bool} (h1 : EvD K ta σ H (.bool a)) : EvD K (tNotV ta) σ H (.bool (!a)) := edB (ev_notV (evB h1))
theorem etV {b : Bool} (h : EvD K te σ H (.bool b)) : EvT (tB te) σ H b := et_B (evB h)
theorem etC {b : Bool} (h : EvD K te σ H (.bool b)) : EvT (tTest te) σ H b := et_test (evB h)
theorem edChain {r r' : R2} {x y z : V} {a b : Bool} (ha : Ev ta σ H x) (hb : Ev tb σ H y) (hc : Ev te σ H z) (h1 : ∀ H1, RV r x y H1 (.bl a)) (h2 : ∀ H1, RV r' y z H1 (.bl b)) : EvD K (tChain r r' ta tb te) σ H (.bool (a && b)) := edB fun H1 e Q q =>
  ha H1 e _ fun H2 e2 => hb H2 (e.trans e2) _ fun H3 e3 => h1 H3 H3 (Ex.refl _) _ fun H4 e4 => ⟨a, rfl, by
    cases a with
    | true => exact hc H4 (((e.trans e2).trans e3).trans e4) _ fun H5 e5 => h2 H5 H5 (Ex.refl _) _ fun H6 e6 => q H6 ((((e2.trans e3).trans e4).trans e5).trans e6)
    | false => exact q H4 ((e2.trans e3).trans e4)⟩
/-- a literal that is in, that is not in -/
theorem edIn {neg b : Bool} {ds : List PyData} {w : V} {ws : List V} (ha : EvD K ta σ H d) (hb : EvD K tb σ H (.tuple ds)) (hw : fV d = some w) (hs : ds.map fV = ws.map some) (f1 : flatV w = true) (f2 : ws.all flatV = true) (hr : (if neg then !inV w ws else inV w ws) = b) :
    EvD K (tOp (rIn K neg) ta tb) σ H (.bool b) := edB (ev_is (evInT ha hb hw hs f1 f2) (by rw [hr]))
theorem edInL {neg b : Bool} {ds : List PyData} {w : V} {ws : List V} (ha : EvD K ta σ H d) (hb : EvD K tb σ H (.list ds)) (hw : fV d = some w) (hs : ds.map fV = ws.map some) (f1 : flatV w = true) (f2 : ws.all flatV = true) (hr : (if neg then !inV w ws else inV w ws) = b) :
    EvD K (tOp (rIn K neg) ta tb) σ H (.bool b) := edB (ev_is (evInL ha hb hw hs f1 f2) (by rw [hr]))
theorem orFF (h1 : EvT t σ H false) (h2 : EvT u σ H false) : EvT (tOr t u) σ H false := et_is (et_or h1 fun _ => h2) rfl
theorem notT (h1 : EvT t σ H true) : EvT (tNot t) σ H false := et_not h1
/-- an if whose test is false, and what follows it -/
theorem qSkip {D : Ends} {tu tz : TS} (h : EvT t σ H false) (k : ∀ H1, Ex H H1 → tz D σ H1) : tSeq (tIfS t tu tNext) tz D σ H := h H (Ex.refl H) _ fun H1 e => k H1 e
theorem sSkip {D : Ends} {tu : TS} (h : EvT t σ H false) (k : ∀ H1, Ex H H1 → D.nx σ H1) : tIfS t tu tNext D σ H := h H (Ex.refl H) _ fun H1 e => k H1 e
theorem allT {α : Type} (L : List α) : (L.map fun _ => true).all id = true := by
  rw [List.all_map, List.all_eq_true]
  exact fun _ _ => rfl
theorem edAllT {α : Type} {L : List α} (h : EvN K te σ H (L.map fun _ => .bool true)) : EvD K (tCB (rAll K) (tCons te tNil)) σ H (.bool true) := by
  have k := edAll (bs := L.map fun _ => true) (edN (enIs h (by rw [List.map_map]; rfl)))
  rw [allT] at k
  exact k
end
theorem letD {K : PySem.W.Frag} {H : Hp} {a : Addr} (h : SqT K H a [.str "a", .str "b", .str "c"]) : Dp K H (.ref a) (.tuple [.str "a", .str "b", .str "c"]) := .tup h (.cons (.str _) (.cons (.str _) (.cons (.str _) .nil)))
theorem inLet {c : Nat} (h : Code c) : inV (.str ⟨#[c]⟩) [.str "a", .str "b", .str "c"] = true := by
  rcases h with rfl | rfl | rfl <;> decide +kernel

section
variable {P : Program} {w : World} {K : PySem.W.Frag} {mg : Str → Option Value} {base : Heap}

theorem kII : kitB "int" "int" = some true := by decide +kernel
theorem kIB : kitB "int" "bool" = some false := by decide +kernel
theorem kSS : kitB "str" "str" = some true := by decide +kernel
theorem kLL : kitB "list" "list" = some true := by decide +kernel
theorem kTT : kitB "tuple" "tuple" = some true := by decide +kernel
/-! is_number, is_letter -/
def P_is_number : List PyData → PyData → Prop := fun ds d => ∃ i : Int, ds = [.int i] ∧ d = .bool true
def P_is_letter : List PyData → PyData → Prop := fun ds d => ∃ c, Code c ∧ ds = [.str ⟨#[c]⟩] ∧ d = .bool true
/-! is_row -/
def P_is_row : List PyData → PyData → Prop := fun ds d => ∃ n g r, Tri n g ∧ r < n ∧ ds = [.str (rowS n g r), .int (n - r : Nat)] ∧ d = .bool true
end

open PySem L2 Evl PyProof.Rows
section
variable {P : Program} {w : World} {K : PySem.W.Frag} {mg : Str → Option Value} {base : Heap}

theorem mapIdxRange {α : Type} (n : Nat) (f : Nat → PyData) (h : Nat → PyData → α) : ((List.range n).map f).mapIdx h = (List.range n).map fun i => h i (f i) := by
  refine List.ext_getElem? fun i => ?_
  rw [List.getElem?_mapIdx, List.getElem?_map, List.getElem?_map]
  by_cases hi : i < n
  · rw [List.getElem?_range hi]
    rfl
  · rw [List.getElem?_eq_none (by simpa using hi)]
    rfl

/-! is_triangle, is_spot -/
def P_is_triangle : List PyData → PyData → Prop := fun ds d => ∃ n g, Tri n g ∧ ds = [.list (triD n g)] ∧ d = .bool true
def P_is_spot : List PyData → PyData → Prop := fun ds d => ∃ n g r p, Tri n g ∧ r + p < n ∧ ds = [.list (triD n g), .int (r : Nat), .int (p : Nat)] ∧ d = .bool true
/-! corners -/
def P_corners : List PyData → List PyData → Prop := fun ds es => ∃ r p u, (u = 0 ∨ u = 1) ∧ ds = [smD (r, p, u)] ∧ es = (crn r p u).map spD
/-! is_small -/
def P_is_small : List PyData → PyData → Prop := fun ds d => ∃ n g s, Tri n g ∧ isSm n s ∧ ds = [.list (triD n g), smD s] ∧ d = .bool true
theorem crnIn {n r p u : Nat} (h : isSm n (r, p, u)) : ∀ s ∈ crn r p u, s.1 + s.2 < n := by
  intro s hs
  rcases h with ⟨hu, h⟩ | ⟨hu, h⟩
  · have hu : u = 1 := hu
    subst hu
    have h : r + p + 1 < n := h
    rcases List.mem_cons.mp hs with rfl | hs
    · show r + p < n; omega
    · rcases List.mem_cons.mp hs with rfl | hs
      · show r + (p + 1) < n; omega
      · rw [List.mem_singleton] at hs
        subst hs
        show r + 1 + p < n; omega
  · have hu : u = 0 := hu
    subst hu
    have h : r + p + 2 < n := h
    rcases List.mem_cons.mp hs with rfl | hs
    · show r + (p + 1) < n; omega
    · rcases List.mem_cons.mp hs with rfl | hs
      · show r + 1 + (p + 1) < n; omega
      · rw [List.mem_singleton] at hs
        subst hs
        show r + 1 + p < n; omega
theorem isU {n : Nat} {s : Nat × Nat × Nat} (h : isSm n s) : s.2.2 = 0 ∨ s.2.2 = 1 := by
  rcases h with ⟨h, _⟩ | ⟨h, _⟩
  · exact .inr h
  · exact .inl h
theorem crnLen (r p u : Nat) : (crn r p u).length = 3 := by unfold crn; split <;> rfl
/-! check_triangle, check_small -/
def P_check_triangle : List PyData → PyData → Prop := fun ds d => ∃ n g, Tri n g ∧ ds = [.list (triD n g)] ∧ d = .none
def P_check_small : List PyData → PyData → Prop := fun ds d => ∃ n g s, Tri n g ∧ isSm n s ∧ ds = [.list (triD n g), smD s] ∧ d = .none
end

end Dt

/-! Rules of our own: list.count of flat things, xs[::k], len(set(a text)), find. -/
namespace Dt
open PySem L2 Evl PyProof.Rows

/-! xs.count(y) -/
def rCntV (K : PySem.W.Frag) : V → List V → Hp → VK → Prop := fun x xs H Q => ∃ (p : Addr) (ys : List V) (y : V), x = .ref p ∧ xs = [y] ∧ SqL K H p ys ∧ flatV y = true ∧ ys.all flatV = true ∧ Q (.int (ys.countP fun z => eqV z y : Nat)) H
theorem countU {y : V} : ∀ {ys : List V} {us : List Value}, Vals ys us → ys.all flatV = true → us.countP (eqU y) = ys.countP fun z => eqV z y
  | _, _, .nil, _ => rfl
  | z :: ys, u :: us, .cons r t, f => by
    rw [List.all_cons, Bool.and_eq_true] at f
    rw [List.countP_cons, List.countP_cons, eqU_of r f.1, countU t f.2]
theorem mt_countS {X : Cx} : MtR X "list.count" (rCntV X.K) := by
  intro pins s σ H x xs v us Q I rx rxs h
  obtain ⟨p, ys, y, rfl, rfl, hs, fy, fys, q⟩ := h
  cases rx
  obtain ⟨u, rfl, ry⟩ := rxs.one
  obtain ⟨its, rv, ⟨⟨cls, dd, data, sl⟩, n, ho, hc, hdn, hd⟩, _⟩ := I.list hs
  simp only at hc hd
  subst hc hd
  refine call_meets PySem.F.slot_list_count ⟨_, ho, rfl⟩ PySem.F.entry_list_count (PySem.F.args_list_count_2 _ _) (SeqAt.list_countAt p its.toArray n dd sl u (eqU y))
    ⟨ho, fun w hw => mem_eqAt ry fy rv fys w (by simpa using hw), .int (ys.countP fun z => eqV z y : Nat), H, I.tok _, ⟨s.toks, ?_⟩, q⟩
  have e : its.toArray.toList.countP (eqU y) = ys.countP fun z => eqV z y := countU rv fys
  exact congrArg (fun k : Nat => Value.int (k : Int) s.toks) e
section
variable {K : PySem.W.Frag} {σ : L2.St} {H H' : Hp} {ta tb te tx : TE} {d e : PyData}
theorem evCount {ys : List V} {ds : List PyData} {w : V} (h : EvD K te σ H (.list ds)) (ha : EvD K ta σ H d) (hw : fV d = some w) (hs : ds.map fV = ys.map some) (f1 : flatV w = true) (f2 : ys.all flatV = true) :
    EvD K (tBM K "list" (rCntV K) te (tCons ta tNil)) σ H (.int (ys.countP fun z => eqV z w : Nat)) := edI fun H1 a Q q =>
  h H1 a _ fun v H2 b hv => by
    obtain ⟨p, xs, rfl, hsq, hr⟩ := dpLst hv
    have e := fvAll hs hr
    subst e
    refine ⟨.inl ⟨rfl, _, hsq⟩, ha H2 (a.trans b) _ fun y H3 c hy => ?_⟩
    have e := fvIs hw hy
    subst e
    exact ⟨p, xs, y, rfl, rfl, ex_l c hsq, f1, f2, q H3 (b.trans c)⟩
end

/-! xs[::k] -/
def ixs (n : Nat) (k : Int) : List Nat := sliceRange (sliceBounds none none (some k) n).1 (sliceBounds none none (some k) n).2.1 (sliceBounds none none (some k) n).2.2
def tStep (K : PySem.W.Frag) (te ts : TE) : TE := fun σ H Q => te σ H fun x H1 => tPart ts σ H1 fun o H2 => ∃ a xs k, x = .ref a ∧ o = some k ∧ k ≠ 0 ∧ SqL K H2 a xs ∧ ∀ p, H2 p = none → Q (.ref p) (upd H2 p (.lst ((ixs xs.length k).filterMap (xs[·]?))))
theorem valsPick {xs : List V} {us : List Value} (r : Vals xs us) : ∀ l : List Nat, Vals (l.filterMap (xs[·]?)) (l.filterMap (us[·]?))
  | [] => .nil
  | i :: l => by
    cases h : xs[i]? with
    | none =>
      rw [List.filterMap_cons_none h, List.filterMap_cons_none (r.none_of h)]
      exact valsPick r l
    | some x =>
      obtain ⟨u, hu, ru⟩ := r.get h
      rw [List.filterMap_cons_some h, List.filterMap_cons_some hu]
      exact .cons ru (valsPick r l)
theorem pe_stepL {X : Cx} {e st : Expr} {te ts : TE} {p3 pos : Pos} (he : PE X e te) (hs : PE X st ts)
    (hop : ∀ o i, subscripted (.Slice none none (some st) p3) false o i = operate [o, i] (getItem o i) := by intro _ _; rfl) : PE X (.Subscript e (.Slice none none (some st) p3) pos) (tStep X.K te ts) := by
  refine ⟨fun pins s σ H Q I h => Subscript_ (thn (he.run pins s σ H _ I h) fun v s1 ⟨x, H1, I1, r1, q1⟩ => ?_)⟩
  refine wpAny_Slice (thn (po_none.run pins s1 σ H1 (fun o H2 => o = none ∧ H2 = H1) I1 ⟨rfl, rfl⟩) fun vl s2 w2 => thn (po_none.run pins s2 σ H1 (fun o H2 => o = none ∧ H2 = H1) (by obtain ⟨l, H2, I2, _, rfl, rfl⟩ := w2; exact I2) ⟨rfl, rfl⟩) fun vu s3 w3 => ?_)
  obtain ⟨l, H2, I2, pl, el, e2⟩ := w2
  subst el e2
  obtain ⟨u, H3, I3, pu, eu, e3⟩ := w3
  subst eu e3
  refine thn ((po_some hs).run pins s3 σ H3 _ I3 q1) fun vs s4 w4 => ?_
  obtain ⟨o, H4, I4, ps, a, xs, k, rfl, rfl, hk, hsq, q⟩ := w4
  cases r1
  have I5 : Inv X pins σ H4 { s4 with heap := s4.heap.push { cls := .type "slice", data := .fields #[vl, vu, vs] } } := I4.kept (t' := s4.toks) fun b ob z => Heap.get?_push_of_some _ z
  obtain ⟨its, r, ht, hz⟩ := I5.list hsq
  have hrl := r.length
  refine tail_any (ops := [.ref a, .ref s4.heap.objs.size]) ht.isList.typeIs PySem.slot_list_getitem.lookup ?_ (hop _ _)
  refine wpAny_getItem_list_slice ht.isList (Heap.IsSliceOf.new _ vl vu vs) pl pu ps (fun z => hk (Option.some.inj z)) ?_ (by rw [List.size_toArray]; omega)
  have ep : slicePick its.toArray none none (some k) = ((ixs xs.length k).filterMap (its[·]?)).toArray := by
    unfold slicePick ixs
    rw [List.size_toArray, ← r.length]
    congr 2
    funext i
    rw [List.getElem?_toArray]
  have hsz := slicePick_size_le its.toArray none none (some k)
  rw [ep] at hsz ⊢
  have hv := valsPick r (ixs xs.length k)
  refine ⟨.ref _, _, I5.laid (t' := s4.toks) (o := .lst ((ixs xs.length k).filterMap (xs[·]?))) (fun b ob z => Heap.get?_push_of_some _ z) (Nat.le_refl _) ⟨?_, _, 0, hv, Heap.get?_push_size _ rfl⟩, rfl, q _ (I5.hok.fresh (Nat.le_refl _))⟩
  rw [hv.length]
  rw [List.size_toArray, List.size_toArray] at hsz
  omega
section
variable {K : PySem.W.Frag} {σ : L2.St} {H H' : Hp} {ta tb te tx : TE} {d e : PyData}
theorem dpsPick {xs : List V} {ds : List PyData} (r : DpAll K H xs ds) : ∀ l : List Nat, DpAll K H (l.filterMap (xs[·]?)) (l.filterMap (ds[·]?))
  | [] => .nil
  | i :: l => by
    cases h : ds[i]? with
    | none =>
      have h2 : xs[i]? = none := by
        rw [List.getElem?_eq_none_iff] at h ⊢
        rw [dpsLen r]
        exact h
      rw [List.filterMap_cons_none h, List.filterMap_cons_none h2]
      exact dpsPick r l
    | some x =>
      obtain ⟨u, hu, ru⟩ := dpsAt r h
      rw [List.filterMap_cons_some h, List.filterMap_cons_some hu]
      exact .cons ru (dpsPick r l)
theorem enStep {ds : List PyData} {k : Int} (h : EvD K te σ H (.list ds)) (hs : EvD K ta σ H (.int k)) (hk : k ≠ 0) : EvN K (tStep K te ta) σ H ((ixs ds.length k).filterMap (ds[·]?)) := fun H1 a Q q =>
  h H1 a _ fun v H2 b hv => evI hs H2 (a.trans b) _ fun H3 c => ⟨k, rfl, by
    obtain ⟨p, xs, rfl, hsq, hr⟩ := dpLst hv
    refine ⟨p, xs, k, rfl, rfl, hk, ex_l c hsq, fun l hl => q l _ _ (fresh_back (b.trans c) hl) ((b.trans c).trans (Ex.new hl)) upd_same ?_⟩
    rw [dpsLen hr]
    exact dpsPick (dpsUp (c.trans (Ex.new hl)) hr) _⟩
end

/-! find -/
def rFind : V → List V → Hp → VK → Prop := fun x xs H Q => ∃ a b, x = .str a ∧ xs = [.str b] ∧ Q (.int (Txt.find a b)) H
theorem pe_findR {X : Cx} {o e : Expr} {to te : TE} {apos pos : Pos} (ho : PE X o to) (he : PE X e te) (hs : starEach [e] X.env = [(false, eval e X.env)] := by rfl) (hbase : attributeBase o "find" X.env (eval o X.env) = eval o X.env := by rfl)
    (hline : (apos.endLine == pos.line) = true := by rfl) : PE X (.Call (.Attribute o "find" apos) [e] [] pos) (tM1 rFind to te) := pe_m1 PySem.F.slot_str_find PySem.F.type_str_find mt_find ho he hs hbase hline
theorem edFind {K : PySem.W.Frag} {σ : L2.St} {H : Hp} {ta tb : TE} {a b : Str} (ha : EvD K ta σ H (.str a)) (hb : EvD K tb σ H (.str b)) : EvD K (tM1 rFind ta tb) σ H (.int (Txt.find a b)) := edI fun H1 e Q q =>
  ha H1 e _ fun v H2 k hv => ⟨⟨a, dpStr hv⟩, hb H2 (e.trans k) _ fun w H3 c hw => ⟨a, b, dpStr hv, by rw [dpStr hw], q H3 (k.trans c)⟩⟩
end Dt

/-! Rules of data, the second part. -/
namespace Dt
open PySem L2 Evl PyProof.Rows
open PySem L2 Evl PyProof.Rows

theorem cI {K : PySem.W.Frag} {σ : L2.St} {H : Hp} (i : Int) : EvD K (tC (.int i)) σ H (.int i) := edI ev_c
/-! a list that grows: at p, unknown to H0 -/
def Grow (K : PySem.W.Frag) (H0 : Hp) (p : Addr) (ds : List PyData) (H : Hp) : Prop := H0 p = none ∧ Ex H0 H ∧ noLs ds = true ∧ ∃ xs, H p = some (.lst xs) ∧ DpAll K H xs ds
section
variable {K : PySem.W.Frag} {σ : L2.St} {H0 H H' : Hp} {ta tb te tx : TE} {t u : TT} {p : Addr} {ds : List PyData} {d e : PyData} {D : Ends} {tz : TS}
theorem Grow.up (g : Grow K H0 p ds H) (e : Ex H H') : Grow K H0 p ds H' := by
  obtain ⟨h1, h2, h3, xs, h4, h5⟩ := g
  exact ⟨h1, h2.trans e, h3, xs, e _ _ h4, dpsUp e h5⟩
theorem growNew {xs : List V} (hp : H0 p = none) (e : Ex H0 H) (h : H p = some (.lst xs)) (hd : DpAll K H xs ds) (hn : noLs ds = true) : Grow K H0 p ds H := ⟨hp, e, hn, xs, h, hd⟩
theorem Grow.eq {es : List PyData} (g : Grow K H0 p ds H) (e : ds = es) : Grow K H0 p es H := by rw [← e]; exact g
theorem sApp {i : Nat} (g : Grow K H0 p ds H) (hi : σ[i]? = some (some (.ref p))) (h : EvD K te σ H d) (hn : noL d = true) (hz : ds.length < 100000) (k : ∀ H1, Grow K H0 p (ds ++ [d]) H1 → D.nx σ H1) :
    tDrop (tBM K "list" rAppend (tVar i) (tCons te tNil)) D σ H := by
  obtain ⟨h1, h2, h3, xs, h4, h5⟩ := g
  refine ⟨.ref p, hi, .inl ⟨rfl, xs, sq_of h4⟩, h H (Ex.refl H) _ fun v H1 e hv => ?_⟩
  have h6 := e _ _ h4
  have h7 := dpsUp e h5
  refine ⟨p, xs, v, rfl, rfl, h6, sz_lt (by rw [dpsLen h7]; exact hz), k _ ⟨h1, (h2.trans e).mut h1, noLs_app h3 (by rw [noLs, hn]; rfl), _, upd_same, dpsSnoc (dpsTups (tupsMut h6) h7 h3) (dpTups (tupsMut h6) hv hn)⟩⟩
theorem qApp {i : Nat} (g : Grow K H0 p ds H) (hi : σ[i]? = some (some (.ref p))) (h : EvD K te σ H d) (hn : noL d = true) (hz : ds.length < 100000) (k : ∀ H1, Grow K H0 p (ds ++ [d]) H1 → tz D σ H1) :
    tSeq (tDrop (tBM K "list" rAppend (tVar i) (tCons te tNil))) tz D σ H := sApp (D := { D with nx := tz D }) g hi h hn hz k
end
theorem flatLen {α β : Type} (f : α → List β) (c : Nat) : ∀ l : List α, (∀ x ∈ l, (f x).length ≤ c) → (l.flatMap f).length ≤ l.length * c
  | [], _ => by simp
  | x :: l, h => by
    have h1 := h x List.mem_cons_self
    have h2 := flatLen f c l fun y hy => h y (List.mem_cons_of_mem _ hy)
    rw [List.flatMap_cons, List.length_append, List.length_cons, Nat.add_mul]
    omega
theorem smAtLen (n r p : Nat) : (smAt n r p).length ≤ 2 := by unfold smAt; split <;> simp
theorem smRowLen (n r : Nat) (k : Nat) : ((List.range k).flatMap (smAt n r)).length ≤ k * 2 := by
  have h := flatLen (smAt n r) 2 (List.range k) fun p _ => smAtLen n r p
  rw [List.length_range] at h
  exact h
theorem smLen (n k : Nat) : ((List.range k).flatMap (smRow n)).length ≤ k * (n * 2) := by
  have h := flatLen (smRow n) (n * 2) (List.range k) fun r _ => by
    have z := smRowLen n r (n - r - 1)
    unfold smRow
    omega
  rw [List.length_range] at h
  exact h
theorem smAllLen {n : Nat} (h : n ≤ 100) : (smAll n).length ≤ 20000 := by
  have z := smLen n (n - 1)
  have z2 : (n - 1) * (n * 2) ≤ 100 * 200 := Nat.mul_le_mul (by omega) (by omega)
  unfold smAll
  omega
theorem smD_noL (s : Nat × Nat × Nat) : noL (smD s) = true := by
  unfold smD
  rw [noL, noLs, noL, noLs, noL, noLs, noL, noLs]
  rfl
theorem smDs_noL (l : List (Nat × Nat × Nat)) : noLs (l.map smD) = true := noLs_map fun s _ => smD_noL s
theorem spD_noL (s : Nat × Nat) : noL (spD s) = true := by
  unfold spD
  rw [noL, noLs, noL, noLs, noL, noLs]
  rfl

section
variable {P : Program} {w : World} {K : PySem.W.Frag} {mg : Str → Option Value} {base : Heap}

/-! all_smalls -/
def P_all_smalls : List PyData → List PyData → Prop := fun ds es => ∃ n g, Tri n g ∧ ds = [.list (triD n g)] ∧ es = (smAll n).map smD
end

open PySem L2 Evl PyProof.Rows

/-! three letters, and which way round they stand -/
theorem join3 (a b c : Nat) : Txt.join ("" : Str) [⟨#[a]⟩, ⟨#[b]⟩, ⟨#[c]⟩] = ⟨#[a, b, c]⟩ := rfl
def w3 (a b c : Nat) : Str := ⟨#[a, b, c]⟩
theorem leftIs {a b c : Nat} (ha : Code a) (hb : Code b) (hc : Code c) : inV (.str (w3 a b c)) [.str "abc", .str "bca", .str "cab"] = decide (turn3 a b c = 1) := by
  rcases ha with rfl | rfl | rfl <;> rcases hb with rfl | rfl | rfl <;> rcases hc with rfl | rfl | rfl <;> decide +kernel
theorem rightIs {a b c : Nat} (ha : Code a) (hb : Code b) (hc : Code c) : inV (.str (w3 a b c)) [.str "acb", .str "cba", .str "bac"] = decide (turn3 a b c = -1) := by
  rcases ha with rfl | rfl | rfl <;> rcases hb with rfl | rfl | rfl <;> rcases hc with rfl | rfl | rfl <;> decide +kernel
theorem turnIs {a b c : Nat} (ha : Code a) (hb : Code b) (hc : Code c) : turn3 a b c = 1 ∨ turn3 a b c = -1 ∨ turn3 a b c = 0 := by
  rcases ha with rfl | rfl | rfl <;> rcases hb with rfl | rfl | rfl <;> rcases hc with rfl | rfl | rfl <;> decide +kernel

/-! the side -/
def spots (n : Nat) : List (Nat × Nat) := (List.range (n - 1)).map (fun p => (0, p)) ++ (List.range (n - 1)).map (fun r => (r, n - 1 - r)) ++ (List.range (n - 1)).map (fun k => (n - 1 - k, 0))
theorem spotsIn {n : Nat} (h : 2 ≤ n) : ∀ s ∈ spots n, s.1 + s.2 < n := by
  intro s hs
  unfold spots at hs
  rw [List.mem_append, List.mem_append, List.mem_map, List.mem_map, List.mem_map] at hs
  rcases hs with (⟨k, hk, rfl⟩ | ⟨k, hk, rfl⟩) | ⟨k, hk, rfl⟩
  · rw [List.mem_range] at hk
    show 0 + k < n
    omega
  · rw [List.mem_range] at hk
    show k + (n - 1 - k) < n
    omega
  · rw [List.mem_range] at hk
    show n - 1 - k + 0 < n
    omega
theorem spotsLen (n : Nat) : (spots n).length = (n - 1) + (n - 1) + (n - 1) := by
  unfold spots
  rw [List.length_append, List.length_append, List.length_map, List.length_map, List.length_map, List.length_range]
def codes (n : Nat) (g : Nat → Nat → Nat) : List Nat := (spots n).map fun s => g s.1 s.2
def rot (l : List Nat) : List Nat := l.drop 1 ++ l.take 1
def pairs (l : List Nat) : List (Nat × Nat) := l.zip (rot l)
def st2 (s : Nat × Nat) : PyData := .str ⟨#[s.1, s.2]⟩
theorem codesLen (n : Nat) (g : Nat → Nat → Nat) : (codes n g).length = (n - 1) + (n - 1) + (n - 1) := by
  unfold codes
  rw [List.length_map, spotsLen]
theorem rotLen (l : List Nat) : (rot l).length = l.length := by
  unfold rot
  rw [List.length_append, List.length_drop, List.length_take]
  omega
theorem pairsLen (l : List Nat) : (pairs l).length = l.length := by
  unfold pairs
  rw [List.length_zip, rotLen]
  omega
def isAB (s : Nat × Nat) : Bool := decide (s = (97, 98))
def isBA (s : Nat × Nat) : Bool := decide (s = (98, 97))
theorem eqAB (s : Nat × Nat) (hs : Code s.1 ∧ Code s.2) : eqV (.str ⟨#[s.1, s.2]⟩) (.str "ab") = isAB s := by
  obtain ⟨a, b⟩ := s
  obtain ⟨ha, hb⟩ := hs
  rcases ha with rfl | rfl | rfl <;> rcases hb with rfl | rfl | rfl <;> decide +kernel
theorem eqBA (s : Nat × Nat) (hs : Code s.1 ∧ Code s.2) : eqV (.str ⟨#[s.1, s.2]⟩) (.str "ba") = isBA s := by
  obtain ⟨a, b⟩ := s
  obtain ⟨ha, hb⟩ := hs
  rcases ha with rfl | rfl | rfl <;> rcases hb with rfl | rfl | rfl <;> decide +kernel
theorem inAB (s : Nat × Nat) (hs : Code s.1 ∧ Code s.2) : inV (.str ⟨#[s.1, s.2]⟩) [.str "ab", .str "ba"] = (isAB s || isBA s) := by
  obtain ⟨a, b⟩ := s
  obtain ⟨ha, hb⟩ := hs
  rcases ha with rfl | rfl | rfl <;> rcases hb with rfl | rfl | rfl <;> decide +kernel
theorem codesOk {n : Nat} {g : Nat → Nat → Nat} (tri : Tri n g) : ∀ c ∈ codes n g, Code c := by
  intro c hc
  obtain ⟨s, _, rfl⟩ := List.mem_map.mp hc
  exact tri.ok _ _
theorem pairsOk {l : List Nat} (h : ∀ c ∈ l, Code c) : ∀ s ∈ pairs l, Code s.1 ∧ Code s.2 := by
  intro s hs
  obtain ⟨a, b⟩ := s
  have z := List.of_mem_zip hs
  refine ⟨h _ z.1, h _ ?_⟩
  have z2 := z.2
  unfold rot at z2
  rw [List.mem_append] at z2
  rcases z2 with z2 | z2
  · exact List.mem_of_mem_drop z2
  · exact List.mem_of_mem_take z2
def doorsOf (l : List (Nat × Nat)) : List Nat := (List.range l.length).filter fun i => isAB (l.getD i (0, 0)) || isBA (l.getD i (0, 0))
def aroundOf (l : List (Nat × Nat)) : Int := (l.countP isAB : Nat) - (l.countP isBA : Nat)

section
variable {P : Program} {w : World} {K : PySem.W.Frag} {mg : Str → Option Value} {base : Heap}

/-! turn_of -/
def P_turn_of : List PyData → PyData → Prop := fun ds d => ∃ n g s, Tri n g ∧ isSm n s ∧ ds = [.list (triD n g), smD s] ∧ d = .int (trn g s)
theorem trnAs (g : Nat → Nat → Nat) {n r p u : Nat} (h : isSm n (r, p, u)) : ∃ a b c, (crn r p u).map (fun s => g s.1 s.2) = [a, b, c] ∧ trn g (r, p, u) = turn3 a b c := by
  rcases h with ⟨hu, h⟩ | ⟨hu, h⟩
  · have hu : u = 1 := hu
    subst hu
    exact ⟨_, _, _, rfl, rfl⟩
  · have hu : u = 0 := hu
    subst hu
    exact ⟨_, _, _, rfl, rfl⟩
/-! side_spots -/
def P_side_spots : List PyData → List PyData → Prop := fun ds es => ∃ n g, Tri n g ∧ ds = [.list (triD n g)] ∧ es = (spots n).map spD
/-! side_steps -/
def P_side_steps : List PyData → List PyData → Prop := fun ds es => ∃ n g, Tri n g ∧ ds = [.list (triD n g)] ∧ es = (pairs (codes n g)).map st2
theorem cut1D (ds : List PyData) : cutD ds (some 1) none = ds.drop 1 := by
  unfold cutD
  rw [show HT.sIx ds.length 0 (some 1) = min 1 ds.length from HT.sIx_nat ds.length 0 1, HT.sIx_none]
  cases ds with
  | nil => rfl
  | cons x r =>
    rw [show min 1 (x :: r).length = 1 by rw [List.length_cons]; omega]
    exact List.take_of_length_le (by rw [List.length_drop]; exact Nat.le_refl _)
theorem cutTo1D (ds : List PyData) : cutD ds none (some 1) = ds.take 1 := by
  unfold cutD
  rw [show HT.sIx ds.length ds.length (some 1) = min 1 ds.length from HT.sIx_nat ds.length _ 1, HT.sIx_none, List.drop_zero, Nat.sub_zero]
  cases ds with
  | nil => rfl
  | cons x r =>
    rw [show min 1 (x :: r).length = 1 by rw [List.length_cons]; omega]
end

end Dt

/-! len(set(t)), t a text. -/
namespace Dt
open PySem L2 Evl PyProof.Rows

def ddS (acc : List Nat) (c : Nat) : List Nat := if acc.any (· == c) then acc else acc ++ [c]
def dd (cs : List Nat) : List Nat := cs.foldl ddS []
theorem ddLen : ∀ (cs acc : List Nat), (cs.foldl ddS acc).length ≤ acc.length + cs.length
  | [], acc => Nat.le_refl _
  | c :: cs, acc => by
    have h := ddLen cs (ddS acc c)
    have h2 : (ddS acc c).length ≤ acc.length + 1 := by
      unfold ddS
      split
      · omega
      · rw [List.length_append, List.length_singleton]
        omega
    rw [List.foldl_cons, List.length_cons]
    omega
def inS (acc : List Nat) (k : Str) : Bool := acc.any fun c => decide (k = ⟨#[c]⟩)
theorem inS_one (acc : List Nat) (c : Nat) : inS acc ⟨#[c]⟩ = acc.any (· == c) := by
  unfold inS
  congr 1
  funext z
  by_cases h : z = c
  · subst h
    rw [decide_eq_true rfl, beq_self_eq_true]
  · have h2 : ¬ (⟨#[c]⟩ : Str) = ⟨#[z]⟩ := fun e => h (by
      have e1 := congrArg (fun y : Str => y.cps.toList) e
      injection e1 with e2
      exact e2.symm)
    rw [decide_eq_false h2, beq_eq_false_iff_ne.mpr h]
theorem inS_step (acc : List Nat) (c : Nat) (k : Str) : inS (ddS acc c) k = (inS acc k || decide (k = ⟨#[c]⟩)) := by
  unfold ddS
  by_cases h : acc.any (· == c) = true
  · rw [if_pos h]
    by_cases e : k = ⟨#[c]⟩
    · subst e
      rw [inS_one, h]
      rfl
    · rw [decide_eq_false e, Bool.or_false]
  · rw [if_neg h]
    unfold inS
    rw [List.any_append]
    simp
theorem ddS_len (acc : List Nat) (c : Nat) : (ddS acc c).length = if inS acc ⟨#[c]⟩ then acc.length else acc.length + 1 := by
  rw [inS_one]
  unfold ddS
  split
  · rfl
  · rw [List.length_append, List.length_singleton]
section
variable {prog : Program} {w : World} {A : Around} {R : Result → Shared → Prop} {I : Addr} {fp wr : List Addr} {G : Array GenState → Array GenState → Prop} {n : Nat} {Pz : Nat → Value → Prop} {St : Nat → Shared → Prop}
theorem loopSigns (W : WalksS prog w A.in1 I fp wr G n Pz St) (S : Addr) (hSf : S ∉ fp) (cs : List Nat) (hn : cs.length = n) (hb : n + 1 < scanBound) (hval : ∀ i v, Pz i v → ∃ c t, cs[i]? = some c ∧ v = .str ⟨#[c]⟩ t) :
    ∀ (m i : Nat) (s : Shared), n - i = m → i ≤ n → St i s → s.heap.SetOf (PySem.strKind prog w) S (inS (dd (cs.take i))) (dd (cs.take i)).length →
      (∀ s', Moved (S :: wr) G s s' → s'.heap.SetOf (PySem.strKind prog w) S (inS (dd cs)) (dd cs).length → R (.ok (.ret .none)) s') →
      codeAny (model prog w) A (.builtin "set.update.loop" ⟨[.ref S, .ref I], []⟩) R s := by
  have away : S ∉ wr := fun z => hSf (W.sub _ z)
  have wider : ∀ b ∈ wr, b ∈ S :: wr := fun b z => List.mem_cons_of_mem _ z
  have stands : ∀ {t t' : Shared} {T : Str → Bool} {k : Nat}, Moved wr G t t' → t.heap.SetOf (PySem.strKind prog w) S T k → t'.heap.SetOf (PySem.strKind prog w) S T k := fun mv z => by
    obtain ⟨o, es, ep, tb, ho, more⟩ := z
    exact ⟨o, es, ep, tb, mv.heap S _ away ho, more⟩
  intro m
  induction m with
  | zero =>
    intro i s em hi st hS fin
    have e : i = n := by omega
    subst e
    rw [← hn, List.take_length] at hS
    refine codeAny_builtin PyProof.Rows.F.entry_set_update_loop ?_
    rw [Around.under_plainId PyProof.Rows.F.plain_set_update_loop]
    refine wpAny_bind (m := pyNext (.ref I)) (W.done s _ _ st fun s' mv => ?_)
    exact wpAny_pure (fin s' (mv.mono wider) (stands mv hS))
  | succ m ih =>
    intro i s em hi st hS fin
    have lt : i < n := by omega
    refine codeAny_builtin PyProof.Rows.F.entry_set_update_loop ?_
    rw [Around.under_plainId PyProof.Rows.F.plain_set_update_loop]
    refine wpAny_bind (m := pyNext (.ref I)) (W.item i s _ _ lt st fun v s1 hP st1 mv => ?_)
    obtain ⟨c, t, hc, rfl⟩ := hval i v hP
    have hS1 := stands mv hS
    have tk : cs.take (i + 1) = cs.take i ++ [c] := by rw [List.take_add_one, hc]; rfl
    have dk : dd (cs.take (i + 1)) = ddS (dd (cs.take i)) c := by
      unfold dd
      rw [tk, List.foldl_append]
      rfl
    have few : (dd (cs.take i)).length ≤ i := by
      have z := ddLen (cs.take i) []
      have z2 := List.length_take_le i cs
      unfold dd
      simp only [List.length_nil] at z
      omega
    refine wpAny_bind (m := holding [Value.str ⟨#[c]⟩ t] (setAdd S (.str ⟨#[c]⟩ t))) (wpAny_holding ?_)
    unfold setAdd
    refine wpAny_holding (wpAny_bind ((PySem.strKind prog w).pyHash (k := ⟨#[c]⟩) (strKind_is _ _ _ _) ?_))
    refine wpAny_setAddHashed_of (knd := PySem.strKind prog w) (s := { s1 with toks := s1.toks + 1 }) (strKind_is _ _ _ _) rfl hS1 (by omega) fun h2 sb hS2 => ?_
    have hS3 : h2.SetOf (PySem.strKind prog w) S (inS (dd (cs.take (i + 1)))) (dd (cs.take (i + 1))).length :=
      SetOf_congr hS2 (fun k => by rw [dk, inS_step]) (by rw [dk, ddS_len])
    refine wpAny_pure ⟨plainId_quiet PyProof.Rows.F.plain_set_update_loop _, ih (i + 1) _ (by omega) lt (W.frame _ s1 _ _ st1 (Nat.le_succ _) fun b hb o e => ?_) hS3 fun s3 mv3 hS4 => ?_⟩
    · rw [sb.2 b fun z => hSf (z ▸ hb)]
      exact e
    · refine fin s3 (Moved.trans W.gtrans ((mv.mono wider).then_heap (Nat.le_succ _) fun b o hb e => ?_) mv3) hS4
      rw [sb.2 b fun z => hb (z ▸ List.mem_cons_self)]
      exact e
end
section
variable {prog : Program} {w : World} {A : Around} {E : Value → Shared → Prop} {s : Shared}
theorem call_set_text {x : Str} {t : Tok} {Q : Value → Shared → Prop} (hh : A.handled = none) (hb : x.cps.toList.length + 1 < scanBound)
    (h : ∀ (h' : Heap) (tk : Nat), h'.SetOf (PySem.strKind prog w) s.heap.objs.size (inS (dd x.cps.toList)) (dd x.cps.toList).length → (∀ b o, b < s.heap.objs.size → s.heap.get? b = some o → h'.get? b = some o) → Q (.ref s.heap.objs.size) { s with heap := h', toks := tk }) :
    wpAny (model prog w) A (call (.type "set") [.str x t]) Q E s := by
  obtain ⟨cS, tlS, hmro⟩ := PySem.F.called_set.mro
  have made := PySem.F.called_set.made
  have sub := PySem.F.called_set.sub
  refine wpAny_call (codeAny_of_tree ?_)
  show wpAny _ _ (callAny (.type "set") _) _ _ _
  refine wpAny_pure ⟨Code.quiet_builtin _ (by decide +kernel), codeAny_builtin PySem.F.entry_type_call ?_⟩
  rw [Around.under_plain (weight_type_call_type "set" [.str x t] []) rfl]
  have n1 := PySem.F.called_set.notType
  have n2 := PySem.F.called_set.canCreate
  have n3 := PySem.F.typeCall_set_1 (.str x t)
  repeat (any_goals (first | assumption | wp_step))
  refine codeAny_mono (code_set_new_1 (.str x t) (E := E) (Q₁ := fun obj s₁ => ∃ led : Bool, obj = .ref s.heap.objs.size ∧ s₁ = { s with heap := s.heap.push { cls := .type "set", dict := none, data := .set #[] 0 (.fresh 0 0 led) } }) fun led => ⟨led, rfl, rfl⟩) fun r s1 hr => ?_
  cases r with
  | error e => exact hr
  | ok fl =>
    cases fl with
    | ret obj =>
      obtain ⟨led, rfl, rfl⟩ := hr
      have new : (s.heap.push { cls := .type "set", dict := none, data := .set #[] 0 (.fresh 0 0 led) }).get? s.heap.objs.size = some { cls := .type "set", dict := none, data := .set #[] 0 (.fresh 0 0 led) } := Heap.get?_push_size _ rfl
      have ty : Shared.TypeIs { s with heap := s.heap.push { cls := .type "set", dict := none, data := .set #[] 0 (.fresh 0 0 led) } } (.ref s.heap.objs.size) "set" := ⟨_, new, rfl⟩
      have m1 := PySem.F.called_set.init.lookup
      have m2 := PySem.F.called_set.init.bind (.ref s.heap.objs.size)
      repeat (any_goals (first | assumption | wp_step))
      refine codeAny_mono (codeAny_call_builtin (R := wants (fun r s2 => r = .none ∧ ∃ h' tk, s2 = { s with heap := h', toks := tk } ∧ h'.SetOf (PySem.strKind prog w) s.heap.objs.size (inS (dd x.cps.toList)) (dd x.cps.toList).length ∧
          (∀ b o, b < s.heap.objs.size → s.heap.get? b = some o → h'.get? b = some o)) E) PySem.F.called_set.init.plain PySem.F.entry_set_init (check_set_init_1 ty ?_)) fun r2 s2 hr2 => ?_
      · have t1 := PySem.F.sub_str_set
        have t2 := PySem.F.sub_str_frozenset
        have t3 : (Value.type "str" == Value.type "dict") = false := by decide
        unfold Builtin.«set.__init__» noKeywords Builtin.Frozenset.updateFrom
        generalize hPI : pyIter = PI
        wp_walk
        subst hPI
        refine wpAny_pyIter_strU ?_
        refine wpAny_bind (wpAny_runValue ?_)
        have far : s.heap.objs.size ∉ [(s.heap.push { cls := .type "set", dict := none, data := .set #[] 0 (.fresh 0 0 led) }).objs.size] := by
          rw [Heap.size_push, List.mem_singleton]
          exact Nat.ne_of_lt (Nat.lt_succ_self _)
        have signs : ∀ i v, SignAt x i v → ∃ c t, x.cps.toList[i]? = some c ∧ v = .str ⟨#[c]⟩ t := fun i v hv => by
          obtain ⟨c, u, hc, hv⟩ := hv
          exact ⟨c, u, by rw [Array.getElem?_toList]; exact hc, hv⟩
        have still : ((s.heap.push { cls := .type "set", dict := none, data := .set #[] 0 (.fresh 0 0 led) }).push { cls := .type (strIterType x), data := .fields #[.str x t, .int 0 0] }).get? s.heap.objs.size = some { cls := .type "set", dict := none, data := .set #[] 0 (.fresh 0 0 led) } := Heap.get?_push_of_some _ new
        have empty : ((s.heap.push { cls := .type "set", dict := none, data := .set #[] 0 (.fresh 0 0 led) }).push { cls := .type (strIterType x), data := .fields #[.str x t, .int 0 0] }).SetOf (PySem.strKind prog w) s.heap.objs.size (inS (dd (x.cps.toList.take 0))) (dd (x.cps.toList.take 0)).length :=
          SetOf_congr ((setObjOf_fresh (knd := PySem.strKind prog w) led).setOf still (by unfold scanBound; omega)) (fun _ => rfl) rfl
        have len : x.cps.toList.length = x.cps.size := Array.length_toList
        have ends : ∀ s' : Shared, Moved (s.heap.objs.size :: [(s.heap.push { cls := .type "set", dict := none, data := .set #[] 0 (.fresh 0 0 led) }).objs.size]) (fun g g' => g' = g) { s with heap := (s.heap.push { cls := .type "set", dict := none, data := .set #[] 0 (.fresh 0 0 led) }).push { cls := .type (strIterType x), data := .fields #[.str x t, .int 0 0] } } s' →
            s'.heap.SetOf (PySem.strKind prog w) s.heap.objs.size (inS (dd x.cps.toList)) (dd x.cps.toList).length → ∃ h' tk, s' = { s with heap := h', toks := tk } ∧ h'.SetOf (PySem.strKind prog w) s.heap.objs.size (inS (dd x.cps.toList)) (dd x.cps.toList).length ∧
              (∀ b o, b < s.heap.objs.size → s.heap.get? b = some o → h'.get? b = some o) := fun s' mv hS' => by
          obtain ⟨h', g', d', tk', os'⟩ := s'
          have eg : g' = s.gens := mv.gens
          have ed : d' = s.drawn := mv.drawn
          have eo : os' = s.os := mv.os
          subst eg ed eo
          refine ⟨h', tk', rfl, hS', fun b o lt e => mv.heap b o (fun z => ?_) (Heap.get?_push_of_some _ (Heap.get?_push_of_some _ e))⟩
          rw [Heap.size_push] at z
          rcases List.mem_cons.mp z with z | z
          · exact absurd lt (by rw [z]; exact Nat.lt_irrefl _)
          · rw [List.mem_singleton] at z
            exact absurd lt (by rw [z]; exact Nat.not_lt.mpr (Nat.le_succ _))
        by_cases ha : x.cps.all (· < 128) = true
        · have e0 : strIterType x = "str_ascii_iterator" := if_pos ha
          refine loopSigns ((Walks.strAscii (by simp [hh]) _ x t).toS) s.heap.objs.size far x.cps.toList len (by rw [← len]; exact hb) signs (x.cps.size - 0) 0 _ rfl (Nat.zero_le _) ⟨_, Heap.get?_push_size _ rfl, by rw [e0], rfl⟩ empty fun s' mv hS' => ?_
          obtain ⟨h', tk', rfl, k1, k2⟩ := ends s' mv hS'
          exact wpAny_pure (wpAny_pure ⟨rfl, h', tk', rfl, k1, k2⟩)
        · have e0 : strIterType x = "str_iterator" := if_neg ha
          refine loopSigns ((Walks.strWide (by simp [hh]) _ x t).toS) s.heap.objs.size far x.cps.toList len (by rw [← len]; exact hb) signs (x.cps.size - 0) 0 _ rfl (Nat.zero_le _) ⟨_, Heap.get?_push_size _ rfl, by rw [e0], rfl⟩ empty fun s' mv hS' => ?_
          obtain ⟨h', tk', rfl, k1, k2⟩ := ends s' mv hS'
          exact wpAny_pure (wpAny_pure ⟨rfl, h', tk', rfl, k1, k2⟩)
      · cases r2 with
        | error e => exact hr2
        | ok fl2 =>
          cases fl2 with
          | ret r =>
            obtain ⟨rfl, h', tk, rfl, hS', hk'⟩ := hr2
            repeat (any_goals (first | assumption | wp_step))
            exact h _ _ hS' hk'
          | _ => exact hr2.elim
    | _ => exact hr.elim
end
def tLenSetS (ta : TE) : TE := fun σ H Q => ta σ H fun x H1 => ∃ z : Str, x = .str z ∧ z.length ≤ 1000 ∧ Q (.int ((dd z.cps.toList).length : Nat)) H1
theorem pe_lenSetS {X : Cx} {a : Expr} {ta : TE} {p p2 q pos : Pos} (hg : Gl X "len") (hm : X.mg "len" = none) (hg2 : Gl X "set") (hm2 : X.mg "set" = none) (ha : PE X a ta) (hc : X.calm = true := by rfl)
    (na : starEach [a] X.env = (false, eval a X.env) :: starEach [] X.env := by rfl) : PE X (.Call (.Name "len" p) [.Call (.Name "set" p2) [a] [] q] [] pos) (tLenSetS ta) := by
  refine ⟨fun pins s σ H Q I h => Call_ (ld_blt I hg hm boot_len (callWith_builtin1 (args_cons ?_ rfl) rfl rfl))⟩
  refine Call_ (ld_blt I hg2 hm2 boot_set (callWith_type1 (args_cons (thn (ha.run pins s σ H _ I h) fun v s1 w => args_nil ?_) na) na rfl))
  obtain ⟨x, H1, I1, r1, z, rfl, hz, q1⟩ := w
  obtain ⟨t, rfl⟩ := r1
  have hzl : z.cps.toList.length ≤ 1000 := by
    rw [Array.length_toList]
    exact hz
  refine call_set_text (I1.ok.hd hc) (by unfold scanBound; omega) fun h' tk hS hk => args_nil ?_
  obtain ⟨o, es, ep, tb, ho, hex, hd, _, _, _, hf, hn⟩ := hS
  have I2 : Inv X pins σ H1 { s1 with heap := h', toks := tk } := I1.kept fun b ob e => hk b ob (Heap.lt_size e) e
  have few := ddLen z.cps.toList []
  have few2 : (dd z.cps.toList).length ≤ 1000 := by
    unfold dd
    simp only [List.length_nil] at few
    omega
  exact call_len_set ho hex hd hf (by rw [hn]; omega) ⟨.int ((dd z.cps.toList).length : Nat), H1, I2.tok _, ⟨_, by rw [hn]⟩, q1⟩
theorem edLenSet {K : PySem.W.Frag} {σ : L2.St} {H : Hp} {ta : TE} {z : Str} (h : EvD K ta σ H (.str z)) (hz : z.length ≤ 1000) : EvD K (tLenSetS ta) σ H (.int ((dd z.cps.toList).length : Nat)) := edI fun H1 a Q q =>
  evS h H1 a _ fun H2 b => ⟨z, rfl, hz, q H2 b⟩
end Dt

/-! Texts, the side, data that may be compared. -/
namespace Dt
open PySem L2 Evl PyProof.Rows
open PySem L2 Evl PyProof.Rows

/-! texts as lists of signs -/
def sOf (l : List Nat) : Str := ⟨l.toArray⟩
theorem sOfLen (l : List Nat) : (sOf l).length = l.length := List.size_toArray
theorem sOfApp (a b : List Nat) : sOf a ++ sOf b = sOf (a ++ b) := by
  show (⟨a.toArray ++ b.toArray⟩ : Str) = ⟨(a ++ b).toArray⟩
  simp
theorem sOfSelf (x : Str) : sOf x.cps.toList = x := rfl
theorem cutSTo (l : List Nat) (k : Nat) : cutS (sOf l) none (some (k : Int)) = sOf (l.take k) := by
  unfold cutS
  rw [show HT.sIx (sOf l).length (sOf l).length (some (k : Int)) = min k (sOf l).length from HT.sIx_nat _ _ k, HT.sIx_none, Nat.sub_zero, List.drop_zero, sOfLen]
  show sOf (l.take (min k l.length)) = sOf (l.take k)
  rw [← List.take_take, List.take_length]
theorem cutSFrom (l : List Nat) (k : Nat) : cutS (sOf l) (some (k : Int)) none = sOf (l.drop k) := by
  unfold cutS
  rw [show HT.sIx (sOf l).length 0 (some (k : Int)) = min k (sOf l).length from HT.sIx_nat _ _ k, HT.sIx_none, sOfLen]
  show sOf ((l.drop (min k l.length)).take (l.length - min k l.length)) = sOf (l.drop k)
  by_cases h : k ≤ l.length
  · rw [Nat.min_eq_left h, List.take_of_length_le (by rw [List.length_drop]; exact Nat.le_refl _)]
  · rw [Nat.min_eq_right (by omega), Nat.sub_self, List.take_zero, List.drop_of_length_le (by omega)]
theorem cutSMid (l : List Nat) (a b : Nat) : cutS (sOf l) (some (a : Int)) (some (b : Int)) = sOf ((l.take b).drop a) := by
  unfold cutS
  rw [show HT.sIx (sOf l).length 0 (some (a : Int)) = min a (sOf l).length from HT.sIx_nat _ _ a, show HT.sIx (sOf l).length (sOf l).length (some (b : Int)) = min b (sOf l).length from HT.sIx_nat _ _ b, sOfLen]
  show sOf ((l.drop (min a l.length)).take (min b l.length - min a l.length)) = sOf ((l.take b).drop a)
  congr 1
  refine List.ext_getElem? fun i => ?_
  rw [List.getElem?_take, List.getElem?_drop, List.getElem?_drop, List.getElem?_take]
  by_cases h1 : a ≤ l.length
  · rw [Nat.min_eq_left h1]
    by_cases h2 : b ≤ l.length
    · rw [Nat.min_eq_left h2]
      by_cases h3 : i < b - a
      · rw [if_pos h3, if_pos (by omega)]
      · rw [if_neg h3, if_neg (by omega)]
    · rw [Nat.min_eq_right (by omega)]
      by_cases h3 : i < l.length - a
      · rw [if_pos h3, if_pos (by omega)]
      · rw [if_neg h3, List.getElem?_eq_none (by omega)]
        split <;> rfl
  · rw [Nat.min_eq_right (by omega : l.length ≤ a), List.getElem?_eq_none (by omega), List.getElem?_eq_none (by omega)]
    split <;> split <;> rfl
theorem rowSOf (n : Nat) (g : Nat → Nat → Nat) (r : Nat) : rowS n g r = sOf ((List.range (n - r)).map (g r)) := rfl

/-! a letter put in -/
def putG (g : Nat → Nat → Nat) (r p c : Nat) : Nat → Nat → Nat := fun r' p' => if r' = r ∧ p' = p then c else g r' p'
theorem putTri {n : Nat} {g : Nat → Nat → Nat} {c : Nat} (tri : Tri n g) (h : Code c) (r p : Nat) : Tri n (putG g r p c) := ⟨tri.lo, tri.hi, fun r' p' => by
  unfold putG
  split
  · exact h
  · exact tri.ok _ _⟩
theorem putRow {n : Nat} {g : Nat → Nat → Nat} {r p c : Nat} (h : p < n - r) : ((List.range (n - r)).map (g r)).take p ++ [c] ++ ((List.range (n - r)).map (g r)).drop (p + 1) = (List.range (n - r)).map (putG g r p c r) := by
  refine List.ext_getElem? fun i => ?_
  have l1 : (((List.range (n - r)).map (g r)).take p).length = p := by
    rw [List.length_take, List.length_map, List.length_range]
    omega
  rw [List.append_assoc, List.getElem?_append, l1, List.getElem?_map]
  unfold putG
  by_cases h1 : i < p
  · rw [if_pos h1, List.getElem?_take, if_pos h1, List.getElem?_map, List.getElem?_range (by omega)]
    show some (g r i) = some (if r = r ∧ i = p then c else g r i)
    rw [if_neg (by omega)]
  · rw [if_neg h1]
    by_cases h2 : i = p
    · subst h2
      rw [Nat.sub_self, List.getElem?_range h]
      show some c = some (if r = r ∧ i = i then c else g r i)
      rw [if_pos ⟨rfl, rfl⟩]
    · obtain ⟨k, hk⟩ : ∃ k, i - p = k + 1 := ⟨i - p - 1, by omega⟩
      rw [hk]
      show (((List.range (n - r)).map (g r)).drop (p + 1))[k]? = _
      rw [List.getElem?_drop, List.getElem?_map, show p + 1 + k = i by omega]
      by_cases h3 : i < n - r
      · rw [List.getElem?_range h3]
        show some (g r i) = some (if r = r ∧ i = p then c else g r i)
        rw [if_neg (by omega)]
      · rw [List.getElem?_eq_none (by rw [List.length_range]; omega)]
        rfl
theorem putTriD {n : Nat} {g : Nat → Nat → Nat} {r p c : Nat} (h : p < n - r) : (triD n g).set r (.str (rowS n (putG g r p c) r)) = triD n (putG g r p c) := by
  refine List.ext_getElem? fun i => ?_
  unfold triD
  rw [List.getElem?_set, List.getElem?_map, List.getElem?_map, List.length_map, List.length_range]
  by_cases hi : r = i
  · subst hi
    rw [if_pos rfl, if_pos (by omega), List.getElem?_range (by omega)]
    rfl
  · rw [if_neg hi]
    by_cases h2 : i < n
    · rw [List.getElem?_range h2]
      have e : rowS n g i = rowS n (putG g r p c) i := by
        unfold rowS
        congr 2
        refine List.map_congr_left fun q _ => ?_
        unfold putG
        rw [if_neg (fun z => hi z.1.symm)]
      show some (PyData.str (rowS n g i)) = some (PyData.str (rowS n (putG g r p c) i))
      rw [e]
    · rw [List.getElem?_eq_none (by rw [List.length_range]; omega)]
      rfl

section
variable {K : PySem.W.Frag} {σ : L2.St} {H H' : Hp} {te : TE} {d : PyData} {D : Ends} {tz : TS}
theorem qDrop (h : EvD K te σ H d) (k : ∀ H1, Ex H H1 → tz D σ H1) : tSeq (tDrop te) tz D σ H := h H (Ex.refl H) _ fun v H1 e _ => k H1 e
end

section
variable {P : Program} {w : World} {K : PySem.W.Frag} {mg : Str → Option Value} {base : Heap}

/-! fulls -/
def fullsOf (n : Nat) (g : Nat → Nat → Nat) : List (Nat × Nat × Nat) := (smAll n).filter fun s => !decide (trn g s = 0)
def P_fulls : List PyData → List PyData → Prop := fun ds es => ∃ n g, Tri n g ∧ ds = [.list (triD n g)] ∧ es = (fullsOf n g).map smD
/-! around, doors -/
def P_around : List PyData → PyData → Prop := fun ds d => ∃ n g, Tri n g ∧ ds = [.list (triD n g)] ∧ d = .int (aroundOf (pairs (codes n g)))
theorem st2s (l : List (Nat × Nat)) : (l.map st2).map fV = (l.map fun s => V.str ⟨#[s.1, s.2]⟩).map some := by
  rw [List.map_map, List.map_map]
  rfl
theorem flat2 (l : List (Nat × Nat)) : (l.map fun s => V.str ⟨#[s.1, s.2]⟩).all flatV = true := by
  rw [List.all_map, List.all_eq_true]
  exact fun _ _ => rfl
theorem countAB {l : List (Nat × Nat)} (h : ∀ s ∈ l, Code s.1 ∧ Code s.2) : (l.map fun s => V.str ⟨#[s.1, s.2]⟩).countP (fun z => eqV z (.str "ab")) = l.countP isAB := by
  rw [List.countP_map]
  exact List.countP_congr fun s hs => by
    show eqV (V.str ⟨#[s.1, s.2]⟩) (.str "ab") = true ↔ isAB s = true
    rw [eqAB s (h s hs)]
theorem countBA {l : List (Nat × Nat)} (h : ∀ s ∈ l, Code s.1 ∧ Code s.2) : (l.map fun s => V.str ⟨#[s.1, s.2]⟩).countP (fun z => eqV z (.str "ba")) = l.countP isBA := by
  rw [List.countP_map]
  exact List.countP_congr fun s hs => by
    show eqV (V.str ⟨#[s.1, s.2]⟩) (.str "ba") = true ↔ isBA s = true
    rw [eqBA s (h s hs)]
def P_doors : List PyData → List PyData → Prop := fun ds es => ∃ n g, Tri n g ∧ ds = [.list (triD n g)] ∧ es = (doorsOf (pairs (codes n g))).map fun i => .int (i : Nat)
theorem mapIdxGet {α : Type} (z : α) (f : Nat → α → PyData) (l : List α) : l.mapIdx f = (List.range l.length).map fun i => f i (l.getD i z) := by
  refine List.ext_getElem? fun i => ?_
  rw [List.getElem?_mapIdx, List.getElem?_map]
  by_cases hi : i < l.length
  · rw [List.getElem?_range hi, List.getElem?_eq_getElem hi]
    show some (f i l[i]) = some (f i (l.getD i z))
    rw [List.getD_eq_getElem?_getD, List.getElem?_eq_getElem hi]
    rfl
  · rw [List.getElem?_eq_none (by omega), List.getElem?_eq_none (by rw [List.length_range]; omega)]
    rfl
/-! turn -/
def P_turn : List PyData → PyData → Prop := P_turn_of
/-! put -/
def P_put : List PyData → List PyData → Prop := fun ds es => ∃ n g r p c, Tri n g ∧ r + p < n ∧ Code c ∧ ds = [.list (triD n g), .int (r : Nat), .int (p : Nat), .str ⟨#[c]⟩] ∧ es = triD n (putG g r p c)
end

open PySem L2 Evl PyProof.Rows

def l3 (g : Nat → Nat → Nat) (s : Nat × Nat × Nat) : Str := if s.2.2 = 1 then w3 (g s.1 s.2.1) (g s.1 (s.2.1 + 1)) (g (s.1 + 1) s.2.1) else w3 (g s.1 (s.2.1 + 1)) (g (s.1 + 1) (s.2.1 + 1)) (g (s.1 + 1) s.2.1)
def slD (g : Nat → Nat → Nat) (s : Nat × Nat × Nat) : PyData := .tuple [smD s, .str (l3 g s)]
theorem slD_noL (g : Nat → Nat → Nat) (s : Nat × Nat × Nat) : noL (slD g s) = true := by
  unfold slD
  rw [noL, noLs, smD_noL, noLs, noL, noLs]
  rfl
theorem l3As (g : Nat → Nat → Nat) {n : Nat} (tri : Tri n g) (s : Nat × Nat × Nat) : ∃ a b c, Code a ∧ Code b ∧ Code c ∧ l3 g s = w3 a b c ∧ trn g s = turn3 a b c := by
  unfold l3 trn
  split
  · exact ⟨_, _, _, tri.ok _ _, tri.ok _ _, tri.ok _ _, rfl, rfl⟩
  · exact ⟨_, _, _, tri.ok _ _, tri.ok _ _, tri.ok _ _, rfl, rfl⟩
theorem w3App (a b c : Nat) : (⟨#[a]⟩ : Str) ++ ⟨#[b]⟩ ++ ⟨#[c]⟩ = w3 a b c := rfl

/-! the side once round -/
def cyc (n : Nat) (g : Nat → Nat → Nat) (i : Nat) : Nat := if i ≤ n - 1 then g 0 i else if i ≤ (n - 1) + (n - 1) then g (i - (n - 1)) ((n - 1) + (n - 1) - i) else g ((n - 1) + (n - 1) + (n - 1) - i) 0
theorem rangeApp {α : Type} (f : Nat → α) (a b : Nat) : (List.range (a + b)).map f = (List.range a).map f ++ (List.range b).map fun i => f (a + i) := by
  induction b with
  | zero => simp
  | succ b ih =>
    rw [Nat.add_succ, List.range_succ, List.map_append, ih, List.range_succ, List.map_append, List.append_assoc]
    rfl
theorem codesCyc {n : Nat} (g : Nat → Nat → Nat) (h : 2 ≤ n) : codes n g = (List.range ((n - 1) + (n - 1) + (n - 1))).map (cyc n g) := by
  rw [rangeApp, rangeApp]
  unfold codes spots
  rw [List.map_append, List.map_append, List.map_map, List.map_map, List.map_map]
  congr 1
  · congr 1
    · refine List.map_congr_left fun i hi => ?_
      rw [List.mem_range] at hi
      show g 0 i = cyc n g i
      unfold cyc
      rw [if_pos (by omega)]
    · refine List.map_congr_left fun i hi => ?_
      rw [List.mem_range] at hi
      show g i (n - 1 - i) = cyc n g (n - 1 + i)
      unfold cyc
      by_cases h0 : i = 0
      · subst h0
        rw [if_pos (by omega)]
        rfl
      · rw [if_neg (by omega), if_pos (by omega), show n - 1 + i - (n - 1) = i by omega, show n - 1 + (n - 1) - (n - 1 + i) = n - 1 - i by omega]
  · refine List.map_congr_left fun i hi => ?_
    rw [List.mem_range] at hi
    show g (n - 1 - i) 0 = cyc n g (n - 1 + (n - 1) + i)
    unfold cyc
    by_cases h0 : i = 0
    · subst h0
      rw [if_neg (by omega), if_pos (by omega), show n - 1 + (n - 1) + 0 - (n - 1) = n - 1 - 0 by omega, show n - 1 + (n - 1) - (n - 1 + (n - 1) + 0) = 0 by omega]
    · rw [if_neg (by omega), if_neg (by omega), show n - 1 + (n - 1) + (n - 1) - (n - 1 + (n - 1) + i) = n - 1 - i by omega]
theorem cycEnd {n : Nat} (g : Nat → Nat → Nat) (h : 2 ≤ n) : cyc n g ((n - 1) + (n - 1) + (n - 1)) = g 0 0 := by
  unfold cyc
  rw [if_neg (by omega), if_neg (by omega), Nat.sub_self]
theorem cycZero (n : Nat) (g : Nat → Nat → Nat) : cyc n g 0 = g 0 0 := by
  unfold cyc
  rw [if_pos (Nat.zero_le _)]
theorem pairsCyc {n : Nat} (g : Nat → Nat → Nat) (h : 2 ≤ n) : pairs (codes n g) = (List.range ((n - 1) + (n - 1) + (n - 1))).map fun i => (cyc n g i, cyc n g (i + 1)) := by
  have e0 := cycEnd g h
  have e1 := cycZero n g
  have ec := codesCyc g h
  generalize hm : (n - 1) + (n - 1) + (n - 1) = m at *
  have hm0 : 0 < m := by omega
  refine List.ext_getElem? fun i => ?_
  unfold pairs rot
  rw [ec, List.getElem?_map]
  by_cases hi : i < m
  · rw [List.getElem?_range hi, List.getElem?_zip_eq_some.mpr]
    show (some (cyc n g i, cyc n g (i + 1))) = _
    rfl
    refine ⟨by rw [List.getElem?_map, List.getElem?_range hi]; rfl, ?_⟩
    rw [List.getElem?_append, List.length_drop, List.length_map, List.length_range]
    by_cases h1 : i < m - 1
    · rw [if_pos h1, List.getElem?_drop, List.getElem?_map, List.getElem?_range (by omega), Nat.add_comm 1 i]
      rfl
    · have e2 : i = m - 1 := by omega
      rw [if_neg h1, List.getElem?_take, if_pos (by omega), List.getElem?_map, List.getElem?_range (by omega)]
      show some (cyc n g (i - (m - 1))) = some (cyc n g (i + 1))
      rw [show i - (m - 1) = 0 by omega, show i + 1 = m by omega, e0, e1]
  · have z1 : ((List.map (cyc n g) (List.range m)).zip (List.drop 1 (List.map (cyc n g) (List.range m)) ++ List.take 1 (List.map (cyc n g) (List.range m)))).length ≤ i := by
      rw [List.length_zip, List.length_map, List.length_range]
      omega
    rw [List.getElem?_eq_none z1, List.getElem?_eq_none (by rw [List.length_range]; omega)]
    rfl
/-! the count, by the side -/
theorem countSum : ∀ l : List (Nat × Nat), aroundOf l = (l.map fun s => eg s.1 s.2).sum
  | [] => rfl
  | (a, b) :: l => by
    have ih := countSum l
    unfold aroundOf at ih ⊢
    rw [List.countP_cons, List.countP_cons, List.map_cons, List.sum_cons, ← ih]
    show _ = eg a b + _
    unfold eg
    have e1 : isAB (a, b) = decide (a = 97 ∧ b = 98) := by
      unfold isAB
      simp
    have e2 : isBA (a, b) = decide (a = 98 ∧ b = 97) := by
      unfold isBA
      simp
    rw [e1, e2]
    by_cases h1 : a = 97 ∧ b = 98
    · rw [if_pos h1, decide_eq_true h1, decide_eq_false (by omega)]
      simp
      omega
    · rw [if_neg h1, decide_eq_false h1]
      by_cases h2 : a = 98 ∧ b = 97
      · rw [if_pos h2, decide_eq_true h2]
        simp
        omega
      · rw [if_neg h2, decide_eq_false h2]
        simp
theorem sumRev (F : Nat → Int) : ∀ m, ((List.range m).map fun k => F (m - 1 - k)).sum = ((List.range m).map F).sum
  | 0 => rfl
  | m + 1 => by
    have ih := sumRev F m
    have r : ((List.range (m + 1)).map F).sum = ((List.range m).map F).sum + F m := by
      rw [List.range_succ, List.map_append, List.sum_append]
      show _ + (F m + 0) = _
      omega
    rw [r, ← ih, List.range_succ_eq_map, List.map_cons, List.sum_cons, List.map_map]
    have e : ((fun k => F (m + 1 - 1 - k)) ∘ Nat.succ) = fun k => F (m - 1 - k) := by
      funext k
      show F (m + 1 - 1 - (k + 1)) = F (m - 1 - k)
      rw [show m + 1 - 1 - (k + 1) = m - 1 - k by omega]
    rw [e]
    show F m + _ = _ + F m
    omega
theorem aroundTurns {n : Nat} (g : Nat → Nat → Nat) (h : 2 ≤ n) : aroundOf (pairs (codes n g)) = ((smAll n).map (trn g)).sum := by
  have e : ((smAll n).map (trn g)).sum = smSum g (smAll n) := rfl
  rw [e, turnsSide, countSum, pairsCyc g h, List.map_map, rangeApp, rangeApp, List.sum_append, List.sum_append]
  congr 1
  · congr 1
    · unfold along
      congr 1
      refine List.map_congr_left fun i hi => ?_
      rw [List.mem_range] at hi
      show eg (cyc n g i) (cyc n g (i + 1)) = _
      unfold cyc
      rw [if_pos (by omega), if_pos (by omega)]
    · unfold rightUp
      congr 1
      refine List.map_congr_left fun i hi => ?_
      rw [List.mem_range] at hi
      show eg (cyc n g (n - 1 + i)) (cyc n g (n - 1 + i + 1)) = _
      have z : ∀ k, k ≤ n - 1 → cyc n g (n - 1 + k) = g k (n - 1 - k) := fun k hk => by
        unfold cyc
        by_cases h0 : k = 0
        · subst h0
          rw [if_pos (by omega)]
          rfl
        · rw [if_neg (by omega), if_pos (by omega), show n - 1 + k - (n - 1) = k by omega, show n - 1 + (n - 1) - (n - 1 + k) = n - 1 - k by omega]
      rw [z i (by omega), Nat.add_assoc, z (i + 1) (by omega)]
  · unfold leftDown
    rw [← sumRev (fun r => eg (g (r + 1) 0) (g r 0)) (n - 1)]
    congr 1
    refine List.map_congr_left fun i hi => ?_
    rw [List.mem_range] at hi
    show eg (cyc n g (n - 1 + (n - 1) + i)) (cyc n g (n - 1 + (n - 1) + i + 1)) = _
    have z : ∀ k, k ≤ n - 1 → cyc n g (n - 1 + (n - 1) + k) = g (n - 1 - k) 0 := fun k hk => by
      unfold cyc
      by_cases h0 : k = 0
      · subst h0
        rw [if_neg (by omega), if_pos (by omega), show n - 1 + (n - 1) + 0 - (n - 1) = n - 1 - 0 by omega, show n - 1 + (n - 1) - (n - 1 + (n - 1) + 0) = 0 by omega]
      · rw [if_neg (by omega), if_neg (by omega), show n - 1 + (n - 1) + (n - 1) - (n - 1 + (n - 1) + k) = n - 1 - k by omega]
    rw [z i (by omega), Nat.add_assoc, z (i + 1) (by omega), show n - 1 - 1 - i + 1 = n - 1 - i by omega, show n - 1 - (i + 1) = n - 1 - 1 - i by omega]
theorem ddIs {a b c : Nat} (ha : Code a) (hb : Code b) (hc : Code c) : decide (((dd (w3 a b c).cps.toList).length : Int) < 3) = decide (turn3 a b c = 0) := by
  rcases ha with rfl | rfl | rfl <;> rcases hb with rfl | rfl | rfl <;> rcases hc with rfl | rfl | rfl <;> decide +kernel
theorem findIs {a b c : Nat} (ha : Code a) (hb : Code b) (hc : Code c) (h : ¬ turn3 a b c = 0) : (if decide ((0 : Int) ≤ Txt.find (w3 a b c ++ w3 a b c) "abc") = true then (1 : Int) else -1) = turn3 a b c := by
  rcases ha with rfl | rfl | rfl <;> rcases hb with rfl | rfl | rfl <;> rcases hc with rfl | rfl | rfl <;> first | exact absurd (by decide +kernel) h | decide +kernel

section
variable {P : Program} {w : World} {K : PySem.W.Frag} {mg : Str → Option Value} {base : Heap}

/-! _law_smalls -/
def P__law_smalls : List PyData → List PyData → Prop := fun ds es => ∃ n g, Tri n g ∧ ds = [.list (triD n g)] ∧ es = (smAll n).map (slD g)
/-! _law_turn -/
def P__law_turn : List PyData → PyData → Prop := fun ds d => ∃ a b c, Code a ∧ Code b ∧ Code c ∧ ds = [.str (w3 a b c)] ∧ d = .int (turn3 a b c)
/-! _law_side -/
def P__law_side : List PyData → PyData → Prop := fun ds d => ∃ n g, Tri n g ∧ ds = [.list (triD n g)] ∧ d = .str (sOf ((List.range ((n - 1) + (n - 1) + (n - 1) + 1)).map (cyc n g)))
end

open PySem L2 Evl PyProof.Rows

/-! joined signs, the last sign, all but the last -/
theorem gluedFold : ∀ (l : List Nat) (acc : Array Nat), ((l.map fun c => (⟨#[c]⟩ : Str)).foldl (fun acc p => acc ++ ("" : Str).cps ++ p.cps) acc).toList = acc.toList ++ l
  | [], acc => by simp
  | c :: l, acc => by
    rw [List.map_cons, List.foldl_cons, gluedFold l]
    have e : (("" : Str).cps : Array Nat) = #[] := by decide +kernel
    rw [e]
    simp
theorem joinSigns (l : List Nat) : Txt.join ("" : Str) (l.map fun c => (⟨#[c]⟩ : Str)) = sOf l := by
  cases l with
  | nil => decide +kernel
  | cons c l =>
    have h := gluedFold l #[c]
    show (⟨((l.map fun c => (⟨#[c]⟩ : Str)).foldl (fun acc p => acc ++ ("" : Str).cps ++ p.cps) #[c])⟩ : Str) = ⟨(c :: l).toArray⟩
    congr 1
    refine Array.toList_inj.mp ?_
    rw [h]
    rfl
theorem signsSum (l : List Nat) : ((l.map fun c => (⟨#[c]⟩ : Str)).map (·.length)).sum = l.length := by
  induction l with
  | nil => rfl
  | cons c l ih =>
    rw [List.map_cons, List.map_cons, List.sum_cons, ih, List.length_cons]
    show 1 + l.length = _
    omega
theorem cutSBut (l : List Nat) : cutS (sOf l) none (some (-1)) = sOf (l.take (l.length - 1)) := by
  unfold cutS
  have e : HT.sIx (sOf l).length (sOf l).length (some (-1)) = l.length - 1 := by
    rw [sOfLen]
    show (if (-1 : Int) < 0 then ((-1 : Int) + (l.length : Int)).toNat else min (-1 : Int).toNat l.length) = l.length - 1
    rw [if_pos (by decide)]
    omega
  rw [e, HT.sIx_none, Nat.sub_zero, List.drop_zero]
  rfl
theorem atLast {α : Type} {l : List α} {x : α} (h : l[l.length - 1]? = some x) : atI l (-1) = some x := by
  obtain ⟨hl, _⟩ := List.getElem?_eq_some_iff.mp h
  unfold atI ixN
  rw [if_neg (by decide), if_pos (by omega)]
  show l[((-1 : Int) + (l.length : Int)).toNat]? = some x
  rw [show ((-1 : Int) + (l.length : Int)).toNat = l.length - 1 by omega]
  exact h
/-! data that may be compared -/
def okD (k : Nat) (d : PyData) : Prop := d.canLay0 = true ∧ d.depth ≤ k
theorem layAll : ∀ {ds : List PyData} {k : Nat}, (∀ d ∈ ds, okD k d) → PyData.canLayAll0 ds = true ∧ PyData.depthAll ds ≤ k
  | [], k, _ => by
    rw [PyData.canLayAll0, PyData.depthAll]
    exact ⟨rfl, Nat.zero_le _⟩
  | d :: ds, k, h => by
    have h1 := h d List.mem_cons_self
    have h2 := layAll (ds := ds) fun e he => h e (List.mem_cons_of_mem _ he)
    rw [PyData.canLayAll0, PyData.depthAll, h1.1, h2.1]
    exact ⟨rfl, Nat.max_le.mpr ⟨h1.2, h2.2⟩⟩
theorem okL {ds : List PyData} {k : Nat} (h : ∀ d ∈ ds, okD k d) : okD (k + 1) (.list ds) := by
  have z := layAll h
  unfold okD
  rw [PyData.canLay0, PyData.depth]
  exact ⟨z.1, Nat.succ_le_succ z.2⟩
theorem okT {ds : List PyData} {k : Nat} (h : ∀ d ∈ ds, okD k d) : okD (k + 1) (.tuple ds) := by
  have z := layAll h
  unfold okD
  rw [PyData.canLay0, PyData.depth]
  exact ⟨z.1, Nat.succ_le_succ z.2⟩
theorem okI (i : Int) (k : Nat) : okD k (.int i) := by
  unfold okD
  rw [PyData.canLay0, PyData.depth]
  exact ⟨rfl, Nat.zero_le _⟩
theorem okS {l : List Nat} (h : ∀ c ∈ l, Code c) (k : Nat) : okD k (.str (sOf l)) := by
  unfold okD
  rw [PyData.canLay0, PyData.depth]
  refine ⟨?_, Nat.zero_le _⟩
  show (l.toArray.all (· < 0x110000)) = true
  rw [List.all_toArray, List.all_eq_true]
  intro c hc
  rcases h c hc with rfl | rfl | rfl <;> decide
theorem okM {α : Type} {L : List α} {f : α → PyData} {k : Nat} (h : ∀ a ∈ L, okD k (f a)) : ∀ d ∈ L.map f, okD k d := fun d hd => by
  obtain ⟨a, ha, rfl⟩ := List.mem_map.mp hd
  exact h a ha
theorem shp {d : PyData} {k : Nat} (h : okD k d) (hk : k ≤ 64 := by decide) : SeqAt.shaped d = true := by
  unfold SeqAt.shaped
  rw [h.1, decide_eq_true (Nat.le_trans h.2 hk)]
  rfl
theorem triOk {n : Nat} {g : Nat → Nat → Nat} (tri : Tri n g) : okD 1 (.list (triD n g)) := okL (okM fun r _ => okS (l := (List.range (n - r)).map (g r)) (fun c hc => by
  obtain ⟨p, _, rfl⟩ := List.mem_map.mp hc
  exact tri.ok r p) 0)
theorem smOk (s : Nat × Nat × Nat) : okD 1 (smD s) := okT fun d hd => by
  rcases List.mem_cons.mp hd with rfl | hd
  · exact okI _ 0
  · rcases List.mem_cons.mp hd with rfl | hd
    · exact okI _ 0
    · rw [List.mem_singleton] at hd
      subst hd
      exact okI _ 0
theorem smsOk (l : List (Nat × Nat × Nat)) : okD 2 (.list (l.map smD)) := okL (okM fun s _ => smOk s)
theorem intsOk (l : List Nat) : okD 1 (.list (l.map fun i => .int (i : Nat))) := okL (okM fun i _ => okI _ 0)

def dueD (g : Nat → Nat → Nat) (s : Nat × Nat × Nat) : PyData := .tuple [smD s, .int (trn g s)]
theorem dueD_noL (g : Nat → Nat → Nat) (s : Nat × Nat × Nat) : noL (dueD g s) = true := by
  unfold dueD
  rw [noL, noLs, smD_noL, noLs, noL, noLs]
  rfl
theorem pickMap {α β : Type} (f : α → β) (L : List α) : ∀ l : List Nat, l.filterMap ((L.map f)[·]?) = (l.filterMap (L[·]?)).map f
  | [] => rfl
  | i :: l => by
    have ih := pickMap f L l
    cases h : L[i]? with
    | none => rw [List.filterMap_cons_none (by rw [List.getElem?_map, h]; rfl), List.filterMap_cons_none h, ih]
    | some x => rw [List.filterMap_cons_some (by rw [List.getElem?_map, h]; rfl), List.filterMap_cons_some h, List.map_cons, ih]
theorem pickLen {α : Type} (L : List α) (k : Int) : ((ixs L.length k).filterMap (L[·]?)).length ≤ L.length := by
  have h := slicePick_size_le (L.map fun _ => Value.none).toArray none none (some k)
  have e : slicePick (L.map fun _ => Value.none).toArray none none (some k) = ((ixs L.length k).filterMap ((L.map fun _ => Value.none)[·]?)).toArray := by
    unfold slicePick ixs
    rw [List.size_toArray, List.length_map]
    congr 2
    funext i
    rw [List.getElem?_toArray]
  rw [e, List.size_toArray, List.size_toArray, pickMap, List.length_map, List.length_map] at h
  exact h
theorem pickIn {α : Type} (L : List α) (l : List Nat) : ∀ x ∈ l.filterMap (L[·]?), x ∈ L := fun x hx => by
  obtain ⟨i, _, hi⟩ := List.mem_filterMap.mp hx
  exact List.mem_of_getElem? hi
theorem cutTo (ds : List PyData) (k : Nat) : cutD ds none (some (k : Int)) = ds.take k := by
  unfold cutD
  rw [show HT.sIx ds.length ds.length (some (k : Int)) = min k ds.length from HT.sIx_nat ds.length _ k, HT.sIx_none, List.drop_zero, Nat.sub_zero, ← List.take_take, List.take_length]

section
variable {K : PySem.W.Frag} {σ : L2.St} {H H' : Hp} {te : TE} {d : PyData} {D : Ends} {tz : TS} {wi : TI} {g : TG}
theorem enRev {ds : List PyData} (h : EvD K te σ H (.list ds)) : EvN K (tRevL K te) σ H ds.reverse := fun H1 a Q q =>
  h H1 a _ fun v H2 b hv => by
    obtain ⟨p, xs, rfl, hs, hr⟩ := dpLst hv
    exact ⟨p, xs, rfl, hs, fun l hl => q l _ _ (fresh_back b hl) (b.trans (Ex.new hl)) upd_same (dpsUp (Ex.new hl) (dpsRev hr))⟩
theorem qFor {α : Type} {tu : TS} (L : List α) (enc : α → PyData) (h : IdD K wi σ H (L.map enc)) (Iv : Nat → L2.St → Prop) (h0 : Iv 0 σ)
    (hb : ∀ H0, Ex H H0 → ∀ i a, L[i]? = some a → ∀ σ1 H1 x, Iv i σ1 → Ex H0 H1 → Dp K H1 x (enc a) → g x σ1 H1 fun σ2 H2 => tu { D with nx := fun σ' H' => Iv (i + 1) σ' ∧ Ex H0 H', ct := fun σ' H' => Iv (i + 1) σ' ∧ Ex H0 H', bk := tz D } σ2 H2)
    (hd : ∀ σ1 H1, Iv L.length σ1 → Ex H H1 → tz D σ1 H1) : tSeq (tFor wi g tu) tz D σ H := sFor (D := { D with nx := tz D }) L enc h Iv h0 hb hd
end

section
variable {P : Program} {w : World} {K : PySem.W.Frag} {mg : Str → Option Value} {base : Heap}

/-! _law_side -/
end

open PySem L2 Evl PyProof.Rows
section
variable {P : Program} {w : World} {K : PySem.W.Frag} {mg : Str → Option Value} {base : Heap}

def P__law_right : List PyData → PyData → Prop := fun ds d => ∃ n g, Tri n g ∧ ds = [.list (triD n g)] ∧ d = .bool true
end

end Dt

/-! if k > 1 and ..: t = t.replace(..): the written number in the test gives a token out. -/
namespace Dt
open PySem L2 Evl PyProof.Rows

structure PTK (X : Cx) (e : Expr) (t : TT) : Prop where
  run : ∀ (pins : List (Addr × Obj)) (s : Shared) (σ : L2.St) (H : Hp) (Q : Bool → Hp → Prop), Inv X pins σ H s → t σ H Q → wpAny (model X.prog X.w) X.A (isTrue e X.env (eval e X.env)) (fun b s' => 1 ≤ s'.toks ∧ TP X pins σ Q b s') X.xe s
section
variable {X : Cx} {a b : Expr} {rest : List Expr} {ta : TE} {t u : TT} {pos p2 : Pos} {j : Nat} {i : Int}
theorem ptk_gt (ha : PE X a ta) : PTK X (.Compare a [.Gt] [.Constant (.int i) j p2] pos) (tTest (tOp (rI0 fun i j => .bl (decide (j < i))) ta (tC (.int i)))) := by
  refine ⟨fun pins s σ H Q I h => wpAny_isTrue_Compare1 (thn (ha.run pins s σ H _ I h) fun v s1 w1 => ?_) (nomark _)⟩
  obtain ⟨x, H1, I1, r1, q1⟩ := w1
  refine wpAny_Constant_int ?_
  obtain ⟨m, k, rfl, e, q1⟩ := q1
  cases e
  obtain ⟨tk, rfl⟩ := r1
  refine gt_int ?_
  obtain ⟨c, e, q2⟩ := q1
  cases e
  exact wpAny_truthy_bool ⟨Nat.le_add_left 1 s1.toks, H1, I1.tok _, q2⟩
theorem pwk_and (ha : PTK X a t) (hb : PW X (.BoolOp .And (b :: rest) pos) u) : PTK X (.BoolOp .And (a :: b :: rest) pos) (tAnd t u) := by
  refine ⟨fun pins s σ H Q I h => isTrue_and (thn (ha.run pins s σ H _ I h) fun c s1 w1 => ?_)⟩
  obtain ⟨hk, H1, I1, q1⟩ := w1
  cases c with
  | true => exact wpAny_mono (wpAny_toks_of hk (hb.run _ pins s1 σ H1 Q I1 q1)) (fun _ _ z => z) fun _ _ z => z.2
  | false => exact ⟨hk, H1, I1, q1⟩
/-- if c: x = x.replace('y', 'z') -/
theorem ps_ifRepl {c : Expr} {tc : TT} {x y z : Str} {n1 n2 : Nat} {p0 p1 c0 c1 apos cpos spos : Pos} (hc : PTK X c tc) {i : Nat} (hN : X.N.Nodup) (hi : X.N[i]? = some x) (hx : Loc X.env.scope x)
    (hyz : (y == z) = false := by decide +kernel) (hv : Vis X.env.scope x := by exact Or.inl rfl) (hf : X.fn x = true ∨ X.env.scope.names.lookup x = some .local := by exact Or.inr rfl) (hd : (x == ("__debug__" : Str)) = false := by decide) (hcd : (x == ("__classdict__" : Str)) = false := by decide)
    (hs : swapsWith (.Call (.Attribute (.Name x p1) "replace" apos) [.Constant (.str y) n1 c0, .Constant (.str z) n2 c1] [] cpos) (some (.Name x p0)) spos.line X.env = pure false := by rfl)
    (hst : starEach [.Constant (.str y) n1 c0, .Constant (.str z) n2 c1] X.env = [(false, eval (.Constant (.str y) n1 c0) X.env), (false, eval (.Constant (.str z) n2 c1) X.env)] := by rfl)
    (hbase : attributeBase (.Name x p1) "replace" X.env (eval (.Name x p1) X.env) = eval (.Name x p1) X.env := by rfl) (hline : (apos.endLine == cpos.line) = true := by rfl) :
    PS X (.If c [.Assign [.Name x p0] (.Call (.Attribute (.Name x p1) "replace" apos) [.Constant (.str y) n1 c0, .Constant (.str z) n2 c1] [] cpos) spos] [] pos) (tIfS tc (tAsg (CwR.tReplC (tVar i) y z) (gName i)) tNext) := by
  have pet := CwR.pet_replC (X := X) (pe_var (pos := p1) hi hv hd hcd) hyz hst hbase hline
  refine ⟨fun pins s σ H D I h => wpAny_If (thn (hc.run pins s σ H _ I h) fun d s1 w1 => ?_)⟩
  obtain ⟨hk, H1, I1, q1⟩ := w1
  cases d with
  | true =>
    have q1 : CwR.tReplC (tVar i) y z σ H1 (fun v H2 => gName i v σ H2 D.nx) := q1
    refine wpAny_execs_cons (thn (Q := fun f s' => SP X pins D .next s' ∧ f = .next) (wpAny_Assign_Name (thn (pet pins s1 σ H1 _ hk I1 q1) fun v s2 w2 => ?_) hs) fun f s3 q3 => ?_)
    · obtain ⟨yv, H2, I2, r2, q2⟩ := w2
      exact store_ok I2 hN hi hx r2 (fun s3 I3 => ⟨⟨_, H2, I3, q2⟩, rfl⟩) hf
    · obtain ⟨q3, rfl⟩ := q3
      exact wpAny_execs_nil q3
  | false => exact wpAny_execs_nil ⟨σ, H1, I1, q1⟩
end
section
variable {K : PySem.W.Frag} {σ : L2.St} {H H' : Hp} {t : TT} {D : Ends} {tz : TS}
/-- .. and what follows it, by the text that stands there behind it -/
theorem cRepl {b : Bool} {i : Nat} {x y z o : Str} (h : EvT t σ H b) (hx : σ[i]? = some (some (.str x))) (hl : x.length + (x.length + 1) * z.length ≤ 16777216) (ho : o = if b = true then Txt.replace x y z else x) (hs : b = false → σ.set i (some (.str o)) = σ)
    (k : ∀ H1, Ex H H1 → tz D (σ.set i (some (.str o))) H1) : tCut (tIfS t (tAsg (CwR.tReplC (tVar i) y z) (gName i)) tNext) tz D σ H := by
  refine ⟨fun σ' H' => σ' = σ.set i (some (.str o)) ∧ Ex H H', h H (Ex.refl H) _ fun H1 e => ?_, fun σ' H' w => ?_⟩
  · cases b with
    | true =>
      refine ⟨.str x, hx, x, rfl, hl, ?_⟩
      rw [ho]
      exact ⟨rfl, e⟩
    | false => exact ⟨(hs rfl).symm, e⟩
  · obtain ⟨rfl, e⟩ := w
    exact k H' e
end
end Dt

/-! The drawn triangle: what it is made of. -/
namespace Dt
open PySem L2 Evl PyProof.Rows
open PySem L2 Evl PyProof.Rows

section
variable {K : PySem.W.Frag} {σ : L2.St} {H H' : Hp} {t : TT} {tu : TS} {D : Ends} {tz : TS}
theorem cIf {b : Bool} (h : EvT t σ H b) (M : L2.St → Hp → Prop) (h1 : b = true → ∀ H1, Ex H H1 → tu { D with nx := M } σ H1) (h2 : b = false → ∀ H1, Ex H H1 → M σ H1) (k : ∀ σ' H', M σ' H' → tz D σ' H') : tCut (tIfS t tu tNext) tz D σ H := by
  refine ⟨M, h H (Ex.refl H) _ fun H1 e => ?_, k⟩
  cases b with
  | true => exact h1 rfl H1 e
  | false => exact h2 rfl H1 e
end
structure Two (H0 : Hp) (p q : Addr) (m : Nat) (ls : List (List Nat)) (H : Hp) : Prop where
  a : H0 p = none
  b : H0 q = none
  ne : p ≠ q
  ex : Ex H0 H
  l : H p = some (.lst (ls.map fun l => V.str (sOf l)))
  r : ∃ ms : List Int, ms.length = m ∧ H q = some (.lst (ms.map V.int))
theorem Two.up {H0 H H' : Hp} {p q : Addr} {m : Nat} {ls : List (List Nat)} (h : Two H0 p q m ls H) (e : Ex H H') : Two H0 p q m ls H' := by
  obtain ⟨ms, h1, h2⟩ := h.r
  exact ⟨h.a, h.b, h.ne, h.ex.trans e, e _ _ h.l, ms, h1, e _ _ h2⟩
theorem Two.left {H0 H : Hp} {p q : Addr} {m : Nat} {ls : List (List Nat)} (h : Two H0 p q m ls H) (ms : List Int) (hm : ms.length = m) : Two H0 p q m ls (upd H q (.lst (ms.map V.int))) :=
  ⟨h.a, h.b, h.ne, h.ex.mut h.b, by rw [upd_ne h.ne]; exact h.l, ms, hm, upd_same⟩
theorem Two.found {H0 H : Hp} {p q : Addr} {m : Nat} {ls : List (List Nat)} (h : Two H0 p q m ls H) (ks : List (List Nat)) : Two H0 p q m ks (upd H p (.lst (ks.map fun l => V.str (sOf l)))) := by
  obtain ⟨ms, h1, h2⟩ := h.r
  exact ⟨h.a, h.b, h.ne, h.ex.mut h.a, upd_same, ms, h1, by rw [upd_ne h.ne.symm]; exact h2⟩
theorem flatL {K : PySem.W.Frag} {H : Hp} {a : Addr} {vs : List V} {ds : List PyData} (h : H a = some (.lst vs)) (hd : DpAll K H vs ds) : Dp K H (.ref a) (.list ds) := dpOfL h hd
theorem dpsInts {K : PySem.W.Frag} {H : Hp} : ∀ ms : List Int, DpAll K H (ms.map V.int) (ms.map .int)
  | [] => .nil
  | m :: ms => .cons (.int m) (dpsInts ms)
theorem dpsTexts {K : PySem.W.Frag} {H : Hp} : ∀ ls : List (List Nat), DpAll K H (ls.map fun l => V.str (sOf l)) (ls.map fun l => .str (sOf l))
  | [] => .nil
  | l :: ls => .cons (.str _) (dpsTexts ls)
def Rws (n : Nat) (ls : List (List Nat)) : Prop := ∀ (j : Nat) (l : List Nat), ls[j]? = some l → l.length = n - j ∧ ∀ c ∈ l, Code c
instance (c : Nat) : Decidable (Code c) := inferInstanceAs (Decidable (c = 97 ∨ c = 98 ∨ c = 99))
def gOf' (ls : List (List Nat)) (r p : Nat) : Nat := if decide (Code ((ls.getD r []).getD p 97)) = true then (ls.getD r []).getD p 97 else 97
theorem gOfOk (ls : List (List Nat)) (r p : Nat) : Code (gOf' ls r p) := by
  unfold gOf'
  split
  · rename_i h
    exact of_decide_eq_true h
  · exact .inl rfl
theorem gOfRow {n : Nat} {ls : List (List Nat)} (hn : ls.length = n) (h : Rws n ls) : (ls.map fun l => PyData.str (sOf l)) = triD n (gOf' ls) := by
  refine List.ext_getElem? fun r => ?_
  unfold triD
  rw [List.getElem?_map, List.getElem?_map]
  by_cases hr : r < n
  · rw [List.getElem?_range hr]
    have e1 : ls[r]? = some ls[r] := List.getElem?_eq_getElem (by omega)
    obtain ⟨h1, h2⟩ := h r _ e1
    rw [e1]
    show some (PyData.str (sOf ls[r])) = some (PyData.str (rowS n (gOf' ls) r))
    rw [rowSOf]
    congr 3
    refine List.ext_getElem? fun p => ?_
    rw [List.getElem?_map]
    by_cases hp : p < n - r
    · rw [List.getElem?_range hp]
      have e2 : ls[r][p]? = some ls[r][p] := List.getElem?_eq_getElem (by omega)
      have e3 : (ls.getD r []).getD p 97 = ls[r][p] := by
        rw [List.getD_eq_getElem?_getD, List.getD_eq_getElem?_getD, e1]
        show (ls[r][p]?).getD 97 = _
        rw [e2]
        rfl
      rw [e2]
      show some ls[r][p] = some (gOf' ls r p)
      unfold gOf'
      rw [e3, if_pos (decide_eq_true (h2 _ (List.getElem_mem (by omega))))]
    · rw [List.getElem?_eq_none (by omega), List.getElem?_eq_none (by rw [List.length_range]; omega)]
      rfl
  · rw [List.getElem?_eq_none (by omega), List.getElem?_eq_none (by rw [List.length_range]; omega)]
    rfl
theorem ofEmpty : ("" : Str) = sOf [] := by decide +kernel
theorem abcAt {i : Int} (h0 : 0 ≤ i) (h3 : i < 3) : ∃ c, Code c ∧ atI ("abc" : Str).cps.toList i = some c := by
  have : i = 0 ∨ i = 1 ∨ i = 2 := by omega
  rcases this with rfl | rfl | rfl
  · exact ⟨97, .inl rfl, by decide +kernel⟩
  · exact ⟨98, .inr (.inl rfl), by decide +kernel⟩
  · exact ⟨99, .inr (.inr rfl), by decide +kernel⟩
/-- the letters that may come, by what is taken out -/
def okW (x : Str) : Bool := x.cps.toList.all (fun c => decide (Code c)) && (decide (x.length = 1) || decide (x.length = 2) || decide (x.length = 3) || decide (x.length = 6))
def fR (b : Bool) (y x : Str) : Str := if b then Txt.replace x y "" else x
theorem okRepl (b1 b2 b3 : Bool) (h : (b1 && b2 && b3) = false) : okW (fR b3 "a" (fR b2 "b" (fR b1 "c" "abc"))) = true := by
  revert h
  revert b1 b2 b3
  decide +kernel
theorem lenRepl (b1 b2 b3 : Bool) : (fR b1 "c" "abc").length ≤ 6 ∧ (fR b2 "b" (fR b1 "c" "abc")).length ≤ 6 := by
  revert b1 b2 b3
  decide +kernel
theorem ixOk {x : Str} (h : okW x = true) (z : Int) : ∃ c, Code c ∧ atI x.cps.toList (z % 18 / (18 / (x.length : Int))) = some c ∧ 0 < (18 / (x.length : Int)) ∧ (18 / (x.length : Int)) < 1073741824 ∧ 0 < (x.length : Int) ∧ x.length ≤ 6 := by
  unfold okW at h
  rw [Bool.and_eq_true, List.all_eq_true] at h
  obtain ⟨h1, h2⟩ := h
  have z0 : 0 ≤ z % 18 := Int.emod_nonneg _ (by decide)
  have z1 : z % 18 < 18 := Int.emod_lt_of_pos _ (by decide)
  have fin : ∀ k : Nat, k < x.length → (z % 18 / (18 / (x.length : Int))) = (k : Nat) → ∃ c, Code c ∧ atI x.cps.toList (z % 18 / (18 / (x.length : Int))) = some c := fun k hk e => by
    have hk2 : k < x.cps.toList.length := by
      rw [Array.length_toList]
      exact hk
    refine ⟨x.cps.toList[k], of_decide_eq_true (h1 _ (List.getElem_mem hk2)), ?_⟩
    rw [e]
    exact atNat (List.getElem?_eq_getElem hk2)
  simp only [Bool.or_eq_true, decide_eq_true_eq] at h2
  rcases h2 with ((h2 | h2) | h2) | h2
  · obtain ⟨c, k1, k2⟩ := fin (z % 18 / 18).toNat (by omega) (by rw [h2]; omega)
    exact ⟨c, k1, k2, by rw [h2]; decide, by rw [h2]; decide, by rw [h2]; decide, by omega⟩
  · obtain ⟨c, k1, k2⟩ := fin (z % 18 / 9).toNat (by omega) (by rw [h2]; omega)
    exact ⟨c, k1, k2, by rw [h2]; decide, by rw [h2]; decide, by rw [h2]; decide, by omega⟩
  · obtain ⟨c, k1, k2⟩ := fin (z % 18 / 6).toNat (by omega) (by rw [h2]; omega)
    exact ⟨c, k1, k2, by rw [h2]; decide, by rw [h2]; decide, by rw [h2]; decide, by omega⟩
  · obtain ⟨c, k1, k2⟩ := fin (z % 18 / 3).toNat (by omega) (by rw [h2]; omega)
    exact ⟨c, k1, k2, by rw [h2]; decide, by rw [h2]; decide, by rw [h2]; decide, by omega⟩

section
variable {P : Program} {w : World} {K : PySem.W.Frag} {mg : Str → Option Value} {base : Heap}

def SpTri (K : PySem.W.Frag) : Sp := fun vs H Q _ => ∃ ns : List Int, DpAll K H vs [.list (ns.map .int)] ∧ ns.length ≤ 63 ∧
  ∀ n g p xs H', Tri n g → H p = none → Ex H H' → H' p = some (.lst xs) → DpAll K H' xs (triD n g) → Q (.ref p) H'
end

open PySem L2 Evl PyProof.Rows

def gA (r p : Nat) : Nat := if r = 0 ∧ p = 0 then 97 else if r = 0 ∧ p = 1 then 98 else 99
def gB (r p : Nat) : Nat := if r = 0 ∧ p = 0 then 98 else if r = 0 ∧ p = 1 then 97 else 99
theorem triA : Tri 2 gA := ⟨by decide, by decide, fun r p => by
  unfold gA Code
  split
  · exact .inl rfl
  · split
    · exact .inr (.inl rfl)
    · exact .inr (.inr rfl)⟩
theorem triB : Tri 2 gB := ⟨by decide, by decide, fun r p => by
  unfold gB Code
  split
  · exact .inr (.inl rfl)
  · split
    · exact .inl rfl
    · exact .inr (.inr rfl)⟩
theorem dA : [PyData.str "ab", .str "c"] = triD 2 gA := by
  have e : (("ab" : Str), ("c" : Str)) = (rowS 2 gA 0, rowS 2 gA 1) := by decide +kernel
  show [PyData.str "ab", .str "c"] = [.str (rowS 2 gA 0), .str (rowS 2 gA 1)]
  have e1 := congrArg Prod.fst e
  have e2 := congrArg Prod.snd e
  simp only at e1 e2
  rw [e1, e2]
theorem dB : [PyData.str "ba", .str "c"] = triD 2 gB := by
  have e : (("ba" : Str), ("c" : Str)) = (rowS 2 gB 0, rowS 2 gB 1) := by decide +kernel
  show [PyData.str "ba", .str "c"] = [.str (rowS 2 gB 0), .str (rowS 2 gB 1)]
  have e1 := congrArg Prod.fst e
  have e2 := congrArg Prod.snd e
  simp only at e1 e2
  rw [e1, e2]
theorem fA : fullsOf 2 gA = [(0, 0, 1)] := by decide +kernel
theorem aB : aroundOf (pairs (codes 2 gB)) = -1 := by decide +kernel

section
variable {P : Program} {w : World} {K : PySem.W.Frag} {mg : Str → Option Value} {base : Heap}

def SpLaw (K : PySem.W.Frag) : Sp := fun vs H Q _ => ∃ (a : Addr) (ns : List Int), vs = [.ref a] ∧ SqL K H a (ns.map V.int) ∧ ns.length ≤ 63 ∧ ∀ H', Q (.bl true) H'
end

end Dt

/-! Walks from door to door, in plain Lean. -/
namespace Dt

/-! paths of a partial map that goes back by another -/
section
variable {α : Type}
/-- l is the path of f from its first item on, to where f tells none -/
def IsPath (f : α → Option α) : List α → Prop
  | [] => False
  | [x] => f x = none
  | x :: y :: r => f x = some y ∧ IsPath f (y :: r)
theorem path_one {f : α → Option α} : ∀ {l m : List α}, IsPath f l → IsPath f m → l.head? = m.head? → l = m
  | [], _, h, _, _ => h.elim
  | _ :: _, [], _, h, _ => h.elim
  | [x], [y], _, _, e => by
    injection e with e
    rw [e]
  | [x], y :: z :: r, h1, h2, e => by
    injection e with e
    subst e
    have h1 : f x = none := h1
    rw [h2.1] at h1
    cases h1
  | x :: z :: r, [y], h1, h2, e => by
    injection e with e
    subst e
    have h2 : f x = none := h2
    rw [h1.1] at h2
    cases h2
  | x :: x2 :: r, y :: y2 :: s, h1, h2, e => by
    injection e with e
    subst e
    have e2 : x2 = y2 := Option.some.inj (h1.1.symm.trans h2.1)
    subst e2
    rw [path_one h1.2 h2.2 rfl]
/-- a chain of f that need not be at its end -/
def IsChain (f : α → Option α) : List α → Prop
  | [] => True
  | [_] => True
  | x :: y :: r => f x = some y ∧ IsChain f (y :: r)
theorem path_iff {f : α → Option α} : ∀ {l : List α}, IsPath f l ↔ IsChain f l ∧ ∃ x, l.getLast? = some x ∧ f x = none
  | [] => ⟨fun h => h.elim, fun ⟨_, x, h, _⟩ => by cases h⟩
  | [x] => ⟨fun h => ⟨True.intro, x, rfl, h⟩, fun ⟨_, y, h, hy⟩ => by
      injection h with h
      subst h
      exact hy⟩
  | x :: y :: r => by
    have ih := path_iff (f := f) (l := y :: r)
    rw [List.getLast?_cons_cons]
    exact ⟨fun h => ⟨⟨h.1, (ih.mp h.2).1⟩, (ih.mp h.2).2⟩, fun h => ⟨h.1.1, ih.mpr ⟨h.1.2, h.2⟩⟩⟩
theorem chain_app {f : α → Option α} : ∀ {l : List α} {x y : α}, IsChain f (l ++ [x]) → f x = some y → IsChain f (l ++ [x] ++ [y])
  | [], x, y, _, h => ⟨h, True.intro⟩
  | [a], x, y, h, h2 => ⟨h.1, h2, True.intro⟩
  | a :: b :: l, x, y, h, h2 => ⟨h.1, chain_app (l := b :: l) h.2 h2⟩
theorem chain_rev {f g : α → Option α} (back : ∀ x y, f x = some y → g y = some x) : ∀ {l : List α}, IsChain f l → IsChain g l.reverse
  | [], _ => True.intro
  | [_], _ => True.intro
  | x :: y :: r, h => by
    have ih := chain_rev back (l := y :: r) h.2
    rw [List.reverse_cons] at ih ⊢
    rw [List.reverse_cons]
    exact chain_app ih (back x y h.1)
/-- the way back -/
theorem path_rev {f g : α → Option α} (back : ∀ x y, f x = some y → g y = some x) {l : List α} {x : α} (h : IsPath f l) (hx : l.head? = some x) (gx : g x = none) : IsPath g l.reverse := by
  obtain ⟨h1, _⟩ := path_iff.mp h
  refine path_iff.mpr ⟨chain_rev back h1, x, ?_, gx⟩
  rw [List.getLast?_reverse, hx]
/-- what stands ahead of a later item -/
theorem chain_prev {f : α → Option α} : ∀ {m : List α} {j : Nat} {y : α}, IsChain f m → m[j + 1]? = some y → ∃ z, m[j]? = some z ∧ f z = some y
  | [], _, _, _, h => by simp at h
  | [_], _, _, _, h => by simp at h
  | c :: d :: m, 0, y, hc, h => by
    simp at h
    subst h
    exact ⟨c, rfl, hc.1⟩
  | c :: d :: m, j + 1, y, hc, h => by
    obtain ⟨z, h1, h2⟩ := chain_prev (m := d :: m) (j := j) hc.2 (by simpa using h)
    exact ⟨z, by simpa using h1, h2⟩
/-- nothing comes twice -/
theorem chain_nodup {f g : α → Option α} (back : ∀ x y, f x = some y → g y = some x) {l : List α} {x : α} (h : IsChain f (x :: l)) (gx : g x = none) : (x :: l).Nodup := by
  have same : ∀ (i j : Nat) (a : α), (x :: l)[i]? = some a → (x :: l)[j]? = some a → i < j → False := by
    intro i
    induction i with
    | zero =>
      intro j a hi hj hij
      obtain ⟨j, rfl⟩ : ∃ k, j = k + 1 := ⟨j - 1, by omega⟩
      obtain ⟨z, _, hz⟩ := chain_prev h hj
      have hi : some x = some a := hi
      cases hi
      rw [back z x hz] at gx
      cases gx
    | succ i ih =>
      intro j a hi hj hij
      obtain ⟨j, rfl⟩ : ∃ k, j = k + 1 := ⟨j - 1, by omega⟩
      obtain ⟨z, h1, hz⟩ := chain_prev h hi
      obtain ⟨z2, h2, hz2⟩ := chain_prev h hj
      have e : z = z2 := Option.some.inj ((back z a hz).symm.trans (back z2 a hz2))
      subst e
      exact ih j z h1 h2 (by omega)
  show List.Pairwise (· ≠ ·) (x :: l)
  rw [List.pairwise_iff_getElem]
  intro i j hi hj hij e
  exact same i j _ (List.getElem?_eq_getElem hi) (by rw [e]; exact List.getElem?_eq_getElem hj) hij
end
end Dt

/-! The grid: the edges of small triangles, what lies beyond them, the side. -/
namespace Dt

abbrev Sm := Nat × Nat × Nat
instance (n : Nat) (s : Sm) : Decidable (isSm n s) := inferInstanceAs (Decidable ((s.2.2 = 1 ∧ s.1 + s.2.1 + 1 < n) ∨ (s.2.2 = 0 ∧ s.1 + s.2.1 + 2 < n)))
/-- corner k, gone round to the left -/
def cor (s : Sm) (k : Nat) : Nat × Nat :=
  if s.2.2 = 1 then (if k = 0 then (s.1, s.2.1) else if k = 1 then (s.1, s.2.1 + 1) else (s.1 + 1, s.2.1))
  else (if k = 0 then (s.1, s.2.1 + 1) else if k = 1 then (s.1 + 1, s.2.1 + 1) else (s.1 + 1, s.2.1))
def nx3 (k : Nat) : Nat := if k = 0 then 1 else if k = 1 then 2 else 0
def at2 (g : Nat → Nat → Nat) (c : Nat × Nat) : Nat := g c.1 c.2
/-- edge k, from corner k to the next one: its sign -/
def ek (g : Nat → Nat → Nat) (s : Sm) (k : Nat) : Int := eg (at2 g (cor s k)) (at2 g (cor s (nx3 k)))
/-- what lies beyond edge k -/
def nb (n : Nat) (s : Sm) (k : Nat) : Option Sm :=
  if s.2.2 = 1 then (if k = 0 then (if s.1 = 0 then none else some (s.1 - 1, s.2.1, 0)) else if k = 1 then (if s.1 + s.2.1 + 2 < n then some (s.1, s.2.1, 0) else none) else (if s.2.1 = 0 then none else some (s.1, s.2.1 - 1, 0)))
  else (if k = 0 then some (s.1, s.2.1 + 1, 1) else if k = 1 then some (s.1 + 1, s.2.1, 1) else some (s.1, s.2.1, 1))
/-- the same edge, seen from there -/
def opk (s : Sm) (k : Nat) : Nat := if s.2.2 = 1 then (if k = 0 then 1 else if k = 1 then 2 else 0) else (if k = 0 then 2 else if k = 1 then 0 else 1)
theorem k3 {k : Nat} (h : k < 3) : k = 0 ∨ k = 1 ∨ k = 2 := by omega
theorem trnEk (g : Nat → Nat → Nat) {n : Nat} {s : Sm} (h : isSm n s) : trn g s = ek g s 0 + ek g s 1 + ek g s 2 := by
  obtain ⟨r, p, u⟩ := s
  rcases h with ⟨hu, _⟩ | ⟨hu, _⟩
  · have hu : u = 1 := hu
    subst hu
    rfl
  · have hu : u = 0 := hu
    subst hu
    rfl
/-- over an edge and back -/
theorem nbBack (g : Nat → Nat → Nat) {n : Nat} {s t : Sm} {k : Nat} (hk : k < 3) (h : isSm n s) (e : nb n s k = some t) : isSm n t ∧ opk s k < 3 ∧ nb n t (opk s k) = some s ∧ cor t (opk s k) = cor s (nx3 k) ∧ cor t (nx3 (opk s k)) = cor s k := by
  obtain ⟨r, p, u⟩ := s
  rcases h with ⟨hu, h⟩ | ⟨hu, h⟩
  · have hu : u = 1 := hu
    subst hu
    have h : r + p + 1 < n := h
    rcases k3 hk with rfl | rfl | rfl
    · have e : (if r = 0 then none else some (r - 1, p, 0)) = some t := e
      by_cases h0 : r = 0
      · rw [if_pos h0] at e
        cases e
      · rw [if_neg h0] at e
        cases e
        obtain ⟨r, rfl⟩ : ∃ q, r = q + 1 := ⟨r - 1, by omega⟩
        refine ⟨.inr ⟨rfl, by show r + 1 - 1 + p + 2 < n; omega⟩, Nat.le_of_ble_eq_true rfl, ?_, ?_, ?_⟩
        · show some (r + 1 - 1 + 1, p, 1) = some (r + 1, p, 1)
          rw [Nat.add_sub_cancel]
        · show (r + 1 - 1 + 1, p + 1) = (r + 1, p + 1)
          rw [Nat.add_sub_cancel]
        · show (r + 1 - 1 + 1, p) = (r + 1, p)
          rw [Nat.add_sub_cancel]
    · have e : (if r + p + 2 < n then some (r, p, 0) else none) = some t := e
      by_cases h0 : r + p + 2 < n
      · rw [if_pos h0] at e
        cases e
        exact ⟨.inr ⟨rfl, h0⟩, Nat.le_of_ble_eq_true rfl, rfl, rfl, rfl⟩
      · rw [if_neg h0] at e
        cases e
    · have e : (if p = 0 then none else some (r, p - 1, 0)) = some t := e
      by_cases h0 : p = 0
      · rw [if_pos h0] at e
        cases e
      · rw [if_neg h0] at e
        cases e
        obtain ⟨p, rfl⟩ : ∃ q, p = q + 1 := ⟨p - 1, by omega⟩
        refine ⟨.inr ⟨rfl, by show r + (p + 1 - 1) + 2 < n; omega⟩, Nat.le_of_ble_eq_true rfl, ?_, ?_, ?_⟩
        · show some (r, p + 1 - 1 + 1, 1) = some (r, p + 1, 1)
          rw [Nat.add_sub_cancel]
        · show (r, p + 1 - 1 + 1) = (r, p + 1)
          rw [Nat.add_sub_cancel]
        · show (r + 1, p + 1 - 1 + 1) = (r + 1, p + 1)
          rw [Nat.add_sub_cancel]
  · have hu : u = 0 := hu
    subst hu
    have h : r + p + 2 < n := h
    rcases k3 hk with rfl | rfl | rfl
    · have e : some (r, p + 1, 1) = some t := e
      cases e
      refine ⟨.inl ⟨rfl, by show r + (p + 1) + 1 < n; omega⟩, Nat.le_of_ble_eq_true rfl, ?_, rfl, rfl⟩
      show (if p + 1 = 0 then none else some (r, p + 1 - 1, 0)) = some (r, p, 0)
      rw [if_neg (Nat.succ_ne_zero p), Nat.add_sub_cancel]
    · have e : some (r + 1, p, 1) = some t := e
      cases e
      refine ⟨.inl ⟨rfl, by show r + 1 + p + 1 < n; omega⟩, Nat.le_of_ble_eq_true rfl, ?_, rfl, rfl⟩
      show (if r + 1 = 0 then none else some (r + 1 - 1, p, 0)) = some (r, p, 0)
      rw [if_neg (Nat.succ_ne_zero r), Nat.add_sub_cancel]
    · have e : some (r, p, 1) = some t := e
      cases e
      refine ⟨.inl ⟨rfl, by show r + p + 1 < n; omega⟩, Nat.le_of_ble_eq_true rfl, ?_, rfl, rfl⟩
      show (if r + p + 2 < n then some (r, p, 0) else none) = some (r, p, 0)
      rw [if_pos h]
theorem ekBack (g : Nat → Nat → Nat) {n : Nat} {s t : Sm} {k : Nat} (hk : k < 3) (h : isSm n s) (e : nb n s k = some t) : ek g t (opk s k) = - ek g s k := by
  obtain ⟨_, _, _, h1, h2⟩ := nbBack g hk h e
  unfold ek
  rw [h1, h2]
  exact eg_anti _ _
/-- two edges of one sign are one -/
theorem egOne {x y : Nat} (h : eg x y = 1) : x = 97 ∧ y = 98 := by
  unfold eg at h
  by_cases h1 : x = 97 ∧ y = 98
  · exact h1
  · rw [if_neg h1] at h
    split at h <;> cases h
theorem egNeg {x y : Nat} (h : eg x y = -1) : x = 98 ∧ y = 97 := by
  unfold eg at h
  by_cases h1 : x = 97 ∧ y = 98
  · rw [if_pos h1] at h
    cases h
  · rw [if_neg h1] at h
    by_cases h2 : x = 98 ∧ y = 97
    · exact h2
    · rw [if_neg h2] at h
      cases h
theorem egIs (x y : Nat) : eg x y = 1 ∨ eg x y = -1 ∨ eg x y = 0 := by
  unfold eg
  split
  · exact .inl rfl
  · split
    · exact .inr (.inl rfl)
    · exact .inr (.inr rfl)
def Sg (t : Int) : Prop := t = 1 ∨ t = -1
theorem Sg.neg {t : Int} (h : Sg t) : Sg (-t) := by
  rcases h with rfl | rfl
  · exact .inr rfl
  · exact .inl rfl
theorem ekOne (g : Nat → Nat → Nat) (s : Sm) {i j : Nat} {t : Int} (ht : Sg t) (hi : i < 3) (hj : j < 3) (a : ek g s i = t) (b : ek g s j = t) : i = j := by
  unfold ek at a b
  rcases ht with rfl | rfl
  · have a := egOne a
    have b := egOne b
    rcases k3 hi with rfl | rfl | rfl <;> rcases k3 hj with rfl | rfl | rfl <;> first
      | rfl
      | (exfalso
         have a1 := a.1
         have a2 := a.2
         have b1 := b.1
         have b2 := b.2
         simp only [nx3] at a2 b2
         simp at a2 b2
         omega)
  · have a := egNeg a
    have b := egNeg b
    rcases k3 hi with rfl | rfl | rfl <;> rcases k3 hj with rfl | rfl | rfl <;> first
      | rfl
      | (exfalso
         have a1 := a.1
         have a2 := a.2
         have b1 := b.1
         have b2 := b.2
         simp only [nx3] at a2 b2
         simp at a2 b2
         omega)
/-- the edge of sign t, if there is one -/
def ed (g : Nat → Nat → Nat) (t : Int) (s : Sm) : Option Nat := if ek g s 0 = t then some 0 else if ek g s 1 = t then some 1 else if ek g s 2 = t then some 2 else none
theorem edSome {g : Nat → Nat → Nat} {t : Int} {s : Sm} {k : Nat} (h : ed g t s = some k) : k < 3 ∧ ek g s k = t := by
  unfold ed at h
  split at h
  · cases h
    exact ⟨by decide, by assumption⟩
  · split at h
    · cases h
      exact ⟨by decide, by assumption⟩
    · split at h
      · cases h
        exact ⟨by decide, by assumption⟩
      · cases h
theorem edNone {g : Nat → Nat → Nat} {t : Int} {s : Sm} (h : ed g t s = none) : ∀ k, k < 3 → ek g s k ≠ t := by
  unfold ed at h
  split at h
  · cases h
  · split at h
    · cases h
    · split at h
      · cases h
      · intro k hk
        rcases k3 hk with rfl | rfl | rfl <;> assumption
theorem edIs2 {g : Nat → Nat → Nat} {t : Int} {s : Sm} {k : Nat} (ht : Sg t) (hk : k < 3) (h : ek g s k = t) : ed g t s = some k := by
  cases e : ed g t s with
  | none => exact absurd h (edNone e k hk)
  | some j =>
    obtain ⟨h1, h2⟩ := edSome e
    rw [ekOne g s ht h1 hk h2 h]
/-- one step of the walk that comes in over edges of sign t -/
def stp (n : Nat) (g : Nat → Nat → Nat) (t : Int) (s : Sm) : Option Sm := if isSm n s then (ed g (-t) s).bind (nb n s) else none
theorem stpSm {n : Nat} {g : Nat → Nat → Nat} {t : Int} {s u : Sm} (h : stp n g t s = some u) : isSm n s ∧ ∃ k, k < 3 ∧ ek g s k = -t ∧ nb n s k = some u := by
  unfold stp at h
  by_cases hs : isSm n s
  · rw [if_pos hs] at h
    cases e : ed g (-t) s with
    | none =>
      rw [e] at h
      cases h
    | some k =>
      rw [e] at h
      obtain ⟨h1, h2⟩ := edSome e
      exact ⟨hs, k, h1, h2, h⟩
  · rw [if_neg hs] at h
    cases h
theorem stpBack {n : Nat} {g : Nat → Nat → Nat} {t : Int} (ht : Sg t) : ∀ s u, stp n g t s = some u → stp n g (-t) u = some s := by
  intro s u h
  obtain ⟨hs, k, hk, he, hn⟩ := stpSm h
  obtain ⟨hu, hk2, hn2, _, _⟩ := nbBack g hk hs hn
  have e2 := ekBack g hk hs hn
  rw [he, Int.neg_neg] at e2
  unfold stp
  rw [if_pos hu, Int.neg_neg, edIs2 ht hk2 e2]
  exact hn2
/-! the side's steps as edges -/
def sideE (n i : Nat) : Sm × Nat := if i < n - 1 then ((0, i, 1), 0) else if i < (n - 1) + (n - 1) then ((i - (n - 1), (n - 1) + (n - 1) - 1 - i, 1), 1) else (((n - 1) + (n - 1) + (n - 1) - 1 - i, 0, 1), 2)
def sideI (n : Nat) (s : Sm) (k : Nat) : Nat := if k = 0 then s.2.1 else if k = 1 then (n - 1) + s.1 else (n - 1) + (n - 1) + (n - 1) - 1 - s.1
theorem sideE_ok {n i : Nat} (h2 : 2 ≤ n) (h : i < (n - 1) + (n - 1) + (n - 1)) (g : Nat → Nat → Nat) : isSm n (sideE n i).1 ∧ (sideE n i).2 < 3 ∧ nb n (sideE n i).1 (sideE n i).2 = none ∧ sideI n (sideE n i).1 (sideE n i).2 = i ∧
    at2 g (cor (sideE n i).1 (sideE n i).2) = cyc n g i ∧ at2 g (cor (sideE n i).1 (nx3 (sideE n i).2)) = cyc n g (i + 1) := by
  unfold sideE
  by_cases h0 : i < n - 1
  · rw [if_pos h0]
    refine ⟨.inl ⟨rfl, by show 0 + i + 1 < n; omega⟩, Nat.le_of_ble_eq_true rfl, rfl, rfl, ?_, ?_⟩
    · show g 0 i = cyc n g i
      unfold cyc
      rw [if_pos (by omega)]
    · show g 0 (i + 1) = cyc n g (i + 1)
      unfold cyc
      rw [if_pos (by omega)]
  · rw [if_neg h0]
    by_cases h1 : i < (n - 1) + (n - 1)
    · rw [if_pos h1]
      refine ⟨.inl ⟨rfl, by show i - (n - 1) + ((n - 1) + (n - 1) - 1 - i) + 1 < n; omega⟩, Nat.le_of_ble_eq_true rfl, ?_, ?_, ?_, ?_⟩
      · show (if i - (n - 1) + ((n - 1) + (n - 1) - 1 - i) + 2 < n then _ else none) = none
        rw [if_neg (by omega)]
      · show (n - 1) + (i - (n - 1)) = i
        omega
      · show g (i - (n - 1)) ((n - 1) + (n - 1) - 1 - i + 1) = cyc n g i
        unfold cyc
        by_cases hz : i = n - 1
        · rw [if_pos (by omega), show i - (n - 1) = 0 by omega, show (n - 1) + (n - 1) - 1 - i + 1 = i by omega]
        · rw [if_neg (by omega), if_pos (by omega), show (n - 1) + (n - 1) - 1 - i + 1 = (n - 1) + (n - 1) - i by omega]
      · show g (i - (n - 1) + 1) ((n - 1) + (n - 1) - 1 - i) = cyc n g (i + 1)
        unfold cyc
        rw [if_neg (by omega), if_pos (by omega), show i - (n - 1) + 1 = i + 1 - (n - 1) by omega, show (n - 1) + (n - 1) - 1 - i = (n - 1) + (n - 1) - (i + 1) by omega]
    · rw [if_neg h1]
      refine ⟨.inl ⟨rfl, by show (n - 1) + (n - 1) + (n - 1) - 1 - i + 0 + 1 < n; omega⟩, Nat.le_of_ble_eq_true rfl, rfl, ?_, ?_, ?_⟩
      · show (n - 1) + (n - 1) + (n - 1) - 1 - ((n - 1) + (n - 1) + (n - 1) - 1 - i) = i
        omega
      · show g ((n - 1) + (n - 1) + (n - 1) - 1 - i + 1) 0 = cyc n g i
        unfold cyc
        by_cases hz : i = (n - 1) + (n - 1)
        · rw [if_neg (by omega), if_pos (by omega), show (n - 1) + (n - 1) + (n - 1) - 1 - i + 1 = i - (n - 1) by omega, show (n - 1) + (n - 1) - i = 0 by omega]
        · rw [if_neg (by omega), if_neg (by omega), show (n - 1) + (n - 1) + (n - 1) - 1 - i + 1 = (n - 1) + (n - 1) + (n - 1) - i by omega]
      · show g ((n - 1) + (n - 1) + (n - 1) - 1 - i) 0 = cyc n g (i + 1)
        unfold cyc
        rw [if_neg (by omega), if_neg (by omega), show (n - 1) + (n - 1) + (n - 1) - 1 - i = (n - 1) + (n - 1) + (n - 1) - (i + 1) by omega]
theorem sideI_ok {n : Nat} {s : Sm} {k : Nat} (hk : k < 3) (h : isSm n s) (e : nb n s k = none) : sideI n s k < (n - 1) + (n - 1) + (n - 1) ∧ sideE n (sideI n s k) = (s, k) := by
  obtain ⟨r, p, u⟩ := s
  rcases h with ⟨hu, h⟩ | ⟨hu, h⟩
  · have hu : u = 1 := hu
    subst hu
    have h : r + p + 1 < n := h
    rcases k3 hk with rfl | rfl | rfl
    · have e : (if r = 0 then none else some (r - 1, p, 0)) = (none : Option Sm) := e
      by_cases h0 : r = 0
      · subst h0
        refine ⟨by show p < _; omega, ?_⟩
        show sideE n p = _
        unfold sideE
        rw [if_pos (by omega)]
      · rw [if_neg h0] at e
        cases e
    · have e : (if r + p + 2 < n then some (r, p, 0) else none) = (none : Option Sm) := e
      by_cases h0 : r + p + 2 < n
      · rw [if_pos h0] at e
        cases e
      · refine ⟨by show n - 1 + r < _; omega, ?_⟩
        show sideE n (n - 1 + r) = _
        unfold sideE
        rw [if_neg (by omega), if_pos (by omega), show n - 1 + r - (n - 1) = r by omega, show n - 1 + (n - 1) - 1 - (n - 1 + r) = p by omega]
    · have e : (if p = 0 then none else some (r, p - 1, 0)) = (none : Option Sm) := e
      by_cases h0 : p = 0
      · subst h0
        refine ⟨by show (n - 1) + (n - 1) + (n - 1) - 1 - r < _; omega, ?_⟩
        show sideE n ((n - 1) + (n - 1) + (n - 1) - 1 - r) = _
        unfold sideE
        rw [if_neg (by omega), if_neg (by omega), show (n - 1) + (n - 1) + (n - 1) - 1 - ((n - 1) + (n - 1) + (n - 1) - 1 - r) = r by omega]
      · rw [if_neg h0] at e
        cases e
  · have hu : u = 0 := hu
    subst hu
    rcases k3 hk with rfl | rfl | rfl <;> (exfalso; cases e)
end Dt

/-! Where the rule is kept some small triangle is full; whole ways, and back. -/
namespace Dt

/-! the rule -/
structure Keeps (n : Nat) (g : Nat → Nat → Nat) : Prop where
  low : ∀ p, p < n → g 0 p ≠ 99
  left : ∀ r, r < n → g r 0 ≠ 98
  right : ∀ r, r < n → g r (n - 1 - r) ≠ 97
theorem alongAB {n : Nat} {g : Nat → Nat → Nat} (tri : Tri n g) (k : Keeps n g) : ∀ m, m < n → along g 0 m = (if g 0 m = 98 then 1 else 0) - (if g 0 0 = 98 then 1 else 0)
  | 0, _ => by
    show (0 : Int) = _
    omega
  | m + 1, h => by
    rw [along_succ, alongAB tri k m (by omega)]
    have c1 := tri.ok 0 m
    have c2 := tri.ok 0 (m + 1)
    have k1 := k.low m (by omega)
    have k2 := k.low (m + 1) h
    unfold Code at c1 c2
    unfold eg
    rcases c1 with e1 | e1 | e1 <;> rcases c2 with e2 | e2 | e2 <;> simp [e1, e2] at k1 k2 ⊢ <;> omega
theorem sumZero {α : Type} (f : α → Int) : ∀ l : List α, (∀ x ∈ l, f x = 0) → (l.map f).sum = 0
  | [], _ => rfl
  | x :: l, h => by
    rw [List.map_cons, List.sum_cons, h x List.mem_cons_self, sumZero f l fun y hy => h y (List.mem_cons_of_mem _ hy)]
    rfl
theorem sperner {n : Nat} {g : Nat → Nat → Nat} (tri : Tri n g) (k : Keeps n g) : ∃ s ∈ smAll n, trn g s ≠ 0 := by
  have lo := tri.lo
  have t := turnsSide n g
  have r0 : rightUp n g (n - 1) = 0 := sumZero _ _ fun r hr => by
    rw [List.mem_range] at hr
    have a := k.right r (by omega)
    have b := k.right (r + 1) (by omega)
    unfold eg
    rw [if_neg (fun z => a z.1), if_neg (fun z => b z.2)]
  have l0 : leftDown g (n - 1) = 0 := sumZero _ _ fun r hr => by
    rw [List.mem_range] at hr
    have a := k.left r (by omega)
    have b := k.left (r + 1) (by omega)
    unfold eg
    rw [if_neg (fun z => a z.2), if_neg (fun z => b z.1)]
  have a1 := alongAB tri k (n - 1) (by omega)
  have e0 : g 0 0 ≠ 98 := k.left 0 (by omega)
  have e1 : g 0 (n - 1) = 98 := by
    have c := tri.ok 0 (n - 1)
    have k1 := k.low (n - 1) (by omega)
    have k2 := k.right 0 (by omega)
    rw [Nat.sub_zero] at k2
    rcases c with c | c | c
    · exact absurd c k2
    · exact c
    · exact absurd c k1
  rw [if_pos e1, if_neg e0] at a1
  have one : smSum g (smAll n) = 1 := by omega
  by_cases h : ∃ s ∈ smAll n, trn g s ≠ 0
  · exact h
  · exfalso
    have z : smSum g (smAll n) = 0 := sumZero _ _ fun s hs => by
      cases Int.decEq (trn g s) 0 with
      | isTrue e => exact e
      | isFalse e => exact absurd ⟨s, hs, e⟩ h
    omega
theorem smIn {n : Nat} {s : Sm} (h : isSm n s) : s ∈ smAll n := by
  obtain ⟨r, p, u⟩ := s
  unfold smAll smRow
  rw [List.mem_flatMap]
  rcases h with ⟨hu, h⟩ | ⟨hu, h⟩
  · have hu : u = 1 := hu
    subst hu
    have h : r + p + 1 < n := h
    refine ⟨r, List.mem_range.mpr (by omega), List.mem_flatMap.mpr ⟨p, List.mem_range.mpr (by omega), ?_⟩⟩
    unfold smAt
    split <;> simp
  · have hu : u = 0 := hu
    subst hu
    have h : r + p + 2 < n := h
    refine ⟨r, List.mem_range.mpr (by omega), List.mem_flatMap.mpr ⟨p, List.mem_range.mpr (by omega), ?_⟩⟩
    unfold smAt
    rw [if_pos h]
    simp
/-! the turn by the doors -/
theorem turnEd {n : Nat} {g : Nat → Nat → Nat} {s : Sm} (h : isSm n s) : trn g s = (if (ed g 1 s).isSome then 1 else 0) - (if (ed g (-1) s).isSome then 1 else 0) := by
  rw [trnEk g h]
  have i0 := egIs (at2 g (cor s 0)) (at2 g (cor s (nx3 0)))
  have i1 := egIs (at2 g (cor s 1)) (at2 g (cor s (nx3 1)))
  have i2 := egIs (at2 g (cor s 2)) (at2 g (cor s (nx3 2)))
  have o01 : ∀ t, Sg t → ek g s 0 = t → ek g s 1 ≠ t := fun t ht a b => absurd (ekOne g s ht (by decide) (by decide) a b) (by decide)
  have o02 : ∀ t, Sg t → ek g s 0 = t → ek g s 2 ≠ t := fun t ht a b => absurd (ekOne g s ht (by decide) (by decide) a b) (by decide)
  have o12 : ∀ t, Sg t → ek g s 1 = t → ek g s 2 ≠ t := fun t ht a b => absurd (ekOne g s ht (by decide) (by decide) a b) (by decide)
  have a1 := o01 1 (.inl rfl)
  have a2 := o02 1 (.inl rfl)
  have a3 := o12 1 (.inl rfl)
  have b1 := o01 (-1) (.inr rfl)
  have b2 := o02 (-1) (.inr rfl)
  have b3 := o12 (-1) (.inr rfl)
  have i0 : ek g s 0 = 1 ∨ ek g s 0 = -1 ∨ ek g s 0 = 0 := i0
  have i1 : ek g s 1 = 1 ∨ ek g s 1 = -1 ∨ ek g s 1 = 0 := i1
  have i2 : ek g s 2 = 1 ∨ ek g s 2 = -1 ∨ ek g s 2 = 0 := i2
  unfold ed
  rcases i0 with e0 | e0 | e0 <;> rcases i1 with e1 | e1 | e1 <;> rcases i2 with e2 | e2 | e2 <;> simp [e0, e1, e2] at a1 a2 a3 b1 b2 b3 ⊢
theorem turnSome {n : Nat} {g : Nat → Nat → Nat} {s : Sm} {t : Int} (ht : Sg t) (h : isSm n s) : trn g s = t ↔ (ed g t s).isSome = true ∧ ed g (-t) s = none := by
  rw [turnEd h]
  rcases ht with rfl | rfl
  · cases h1 : ed g 1 s <;> cases h2 : ed g (-1) s <;> simp
  · rw [show (- -1 : Int) = 1 from rfl]
    cases h1 : ed g 1 s <;> cases h2 : ed g (-1) s <;> simp
/-! ways -/
def outAt (n : Nat) (g : Nat → Nat → Nat) (t : Int) (x : Sm) : Option Nat := (ed g (-t) x).map (sideI n x)
/-- l is the whole way from s on that comes in by edges of sign t; e: where it goes out, if it does -/
structure Way (n : Nat) (g : Nat → Nat → Nat) (t : Int) (s : Sm) (l : List Sm) (e : Option Nat) : Prop where
  path : IsPath (stp n g t) l
  head : l.head? = some s
  all : ∀ x ∈ l, isSm n x
  last : ∃ x, l.getLast? = some x ∧ e = outAt n g t x
theorem way_one {n : Nat} {g : Nat → Nat → Nat} {t : Int} {s : Sm} {l m : List Sm} {e f : Option Nat} (a : Way n g t s l e) (b : Way n g t s m f) : l = m ∧ e = f := by
  have h := path_one a.path b.path (a.head.trans b.head.symm)
  subst h
  obtain ⟨x, h1, h2⟩ := a.last
  obtain ⟨y, h3, h4⟩ := b.last
  rw [h1] at h3
  cases h3
  exact ⟨rfl, h2.trans h4.symm⟩
theorem way_back {n : Nat} {g : Nat → Nat → Nat} {t : Int} (ht : Sg t) {s x : Sm} {l : List Sm} {e : Option Nat} (a : Way n g t s l e) (hs : stp n g (-t) s = none) (hx : l.getLast? = some x) : Way n g (-t) x l.reverse (outAt n g (-t) s) where
  path := path_rev (stpBack ht) a.path a.head hs
  head := by rw [List.head?_reverse, hx]
  all := fun y hy => a.all y (List.mem_reverse.mp hy)
  last := ⟨s, by rw [List.getLast?_reverse, a.head], rfl⟩
theorem nodupLe : ∀ (N : Nat) (l : List Nat), l.Nodup → (∀ x ∈ l, x < N) → l.length ≤ N
  | 0, l, _, h => by
    cases l with
    | nil => exact Nat.le_refl _
    | cons x l => exact absurd (h x List.mem_cons_self) (Nat.not_lt_zero _)
  | N + 1, l, hd, h => by
    have h1 := nodupLe N (l.erase N) (hd.erase N) fun x hx => by
      have h2 := (List.Nodup.mem_erase_iff hd).mp hx
      have h3 := h x h2.2
      have h4 := h2.1
      omega
    have h2 := List.length_erase (a := N) (l := l)
    split at h2 <;> omega
def code (n : Nat) (s : Sm) : Nat := (s.1 * n + s.2.1) * 2 + s.2.2
theorem codeLt {n : Nat} {s : Sm} (h : isSm n s) : code n s < n * n * 2 := by
  obtain ⟨r, p, u⟩ := s
  have hu : u ≤ 1 ∧ r < n ∧ p < n := by
    rcases h with ⟨hu, h⟩ | ⟨hu, h⟩
    · have hu : u = 1 := hu
      have h : r + p + 1 < n := h
      omega
    · have hu : u = 0 := hu
      have h : r + p + 2 < n := h
      omega
  have h1 : r * n + n ≤ n * n := by
    have := Nat.mul_le_mul_right n (show r + 1 ≤ n from hu.2.1)
    rw [Nat.add_mul, Nat.one_mul] at this
    exact this
  show (r * n + p) * 2 + u < n * n * 2
  omega
theorem codeInj {n : Nat} {s t : Sm} (hs : isSm n s) (ht : isSm n t) (e : code n s = code n t) : s = t := by
  obtain ⟨r, p, u⟩ := s
  obtain ⟨r', p', u'⟩ := t
  have b : ∀ {r p u : Nat}, isSm n (r, p, u) → u ≤ 1 ∧ p < n := fun {r p u} h => by
    rcases h with ⟨hu, h⟩ | ⟨hu, h⟩
    · have hu : u = 1 := hu
      have h : r + p + 1 < n := h
      omega
    · have hu : u = 0 := hu
      have h : r + p + 2 < n := h
      omega
  have b1 := b hs
  have b2 := b ht
  have e : (r * n + p) * 2 + u = (r' * n + p') * 2 + u' := e
  have e1 : u = u' := by omega
  have e2 : r * n + p = r' * n + p' := by omega
  have e3 : p = p' := by
    have h1 : (r * n + p) % n = p := by rw [Nat.mul_comm, Nat.mul_add_mod, Nat.mod_eq_of_lt b1.2]
    have h2 : (r' * n + p') % n = p' := by rw [Nat.mul_comm, Nat.mul_add_mod, Nat.mod_eq_of_lt b2.2]
    rw [← h1, ← h2, e2]
  have e4 : r = r' := by
    have h1 : r * n = r' * n := by omega
    exact Nat.eq_of_mul_eq_mul_right (by omega) h1
  rw [e1, e3, e4]
theorem smLenLe {n : Nat} {l : List Sm} (hd : l.Nodup) (h : ∀ x ∈ l, isSm n x) : l.length ≤ n * n * 2 := by
  have h1 := nodupLe (n * n * 2) (l.map (code n)) (by
    show List.Pairwise (· ≠ ·) (l.map (code n))
    rw [List.pairwise_map]
    refine List.Pairwise.imp_of_mem (fun {a b} ha hb hne => ?_) hd
    exact fun e => hne (codeInj (h a ha) (h b hb) e)) fun x hx => by
      obtain ⟨s, hs, rfl⟩ := List.mem_map.mp hx
      exact codeLt (h s hs)
  rw [List.length_map] at h1
  exact h1
/-- a chain that stays among the small triangles -/
theorem chainSm {n : Nat} {g : Nat → Nat → Nat} {t : Int} : ∀ {l : List Sm} {s : Sm}, isSm n s → IsChain (stp n g t) (s :: l) → ∀ x ∈ s :: l, isSm n x
  | [], s, h, _ => fun x hx => by
    rw [List.mem_singleton] at hx
    rw [hx]
    exact h
  | y :: l, s, h, hc => fun x hx => by
    rcases List.mem_cons.mp hx with rfl | hx
    · exact h
    · obtain ⟨_, k, hk, _, hn⟩ := stpSm hc.1
      exact chainSm (nbBack g hk h hn).1 hc.2 x hx
theorem chainLen {n : Nat} {g : Nat → Nat → Nat} {t : Int} (ht : Sg t) {s : Sm} {l : List Sm} (h : isSm n s) (hs : stp n g (-t) s = none) (hc : IsChain (stp n g t) (s :: l)) : (s :: l).length ≤ n * n * 2 :=
  smLenLe (chain_nodup (stpBack ht) hc hs) (chainSm h hc)
/-- from a start there is a whole way -/
theorem way_ex {n : Nat} {g : Nat → Nat → Nat} {t : Int} (ht : Sg t) {s : Sm} (h : isSm n s) (hs : stp n g (-t) s = none) : ∃ l e, Way n g t s l e := by
  have grow : ∀ k, (∃ l, IsPath (stp n g t) l ∧ l.head? = some s) ∨ ∃ l, IsChain (stp n g t) (s :: l) ∧ l.length = k := fun k => by
    induction k with
    | zero => exact .inr ⟨[], True.intro, rfl⟩
    | succ k ih =>
      rcases ih with ih | ⟨l, hl, hk⟩
      · exact .inl ih
      · obtain ⟨x, hx⟩ : ∃ x, (s :: l).getLast? = some x := ⟨_, List.getLast?_eq_some_getLast (List.cons_ne_nil s l)⟩
        cases e : stp n g t x with
        | none => exact .inl ⟨s :: l, path_iff.mpr ⟨hl, x, hx, e⟩, rfl⟩
        | some y =>
          refine .inr ⟨l ++ [y], ?_, by rw [List.length_append, hk]; rfl⟩
          obtain ⟨m, hm⟩ := List.getLast?_eq_some_iff.mp hx
          have z : s :: (l ++ [y]) = m ++ [x] ++ [y] := by
            rw [← hm]
            rfl
          rw [z]
          rw [hm] at hl
          exact chain_app hl e
  rcases grow (n * n * 2) with ⟨l, h1, h2⟩ | ⟨l, h1, h2⟩
  · obtain ⟨h3, x, h4, h5⟩ := path_iff.mp h1
    obtain ⟨r, rfl⟩ : ∃ r, l = s :: r := by
      cases l with
      | nil => cases h2
      | cons a r =>
        cases h2
        exact ⟨r, rfl⟩
    exact ⟨_, _, h1, h2, chainSm h h3, x, h4, rfl⟩
  · have h3 := chainLen ht h hs h1
    rw [List.length_cons] at h3
    omega
end Dt

/-! Objects of the program's own classes, by what their fields hold. -/
namespace Dt
open PySem L2 Evl PyProof.Rows

structure OwnC (K : PySem.W.Frag) (C : Addr) : Prop where
  cl : Cls K C
  ha : PySem.W.findIn K (.ref C) "__class__" = some (some (.builtin "object.__class__"))
  hn : PySem.W.specialIn K (.builtin "object.__class__") "__get__" = some (some (.builtin "getset_descriptor.__get__"))
  tk : PySem.W.takesIn K (.builtin "object.__class__") = some true
  hm : PySem.W.mroIn K C (.type "object") = some true
section
variable {X : Cx}
/-- two readings of one expression: either will do -/
theorem pe_orR {e : Expr} {t1 t2 : TE} (h1 : PE X e t1) (h2 : PE X e t2) : PE X e (fun σ H Q => t1 σ H Q ∨ t2 σ H Q) := ⟨fun pins s σ H Q I h => h.elim (h1.run pins s σ H Q I) (h2.run pins s σ H Q I)⟩
def rIsNon : R2 := fun x y H Q => y = .non ∧ Q (.bl (decide (x = .non))) H
def rNotNon : R2 := fun x y H Q => y = .non ∧ Q (.bl (!decide (x = .non))) H
theorem op_isNR : OpR X (compareOp .Is) rIsNon := op_isN
theorem op_notNR : OpR X (compareOp .IsNot) rNotNon := op_notN
end
def isNn : PyData → Bool
  | .none => true
  | _ => false
section
variable {K : PySem.W.Frag} {σ : L2.St} {H H' : Hp} {ta tb te tx : TE} {t u : TT} {d e : PyData} {D : Ends} {tz : TS}
theorem nnIs {v : V} (h : Dp K H v d) : decide (v = V.non) = isNn d := by cases h <;> rfl
theorem edIsNon (h : EvD K te σ H d) : EvD K (tOp rIsNon te (tC .non)) σ H (.bool (isNn d)) := edB fun H1 a Q q => h H1 a _ fun v H2 b hv => ⟨rfl, by rw [nnIs hv]; exact q H2 b⟩
theorem edNotNon (h : EvD K te σ H d) : EvD K (tOp rNotNon te (tC .non)) σ H (.bool (!isNn d)) := edB fun H1 a Q q => h H1 a _ fun v H2 b hv => ⟨rfl, by rw [nnIs hv]; exact q H2 b⟩
theorem edInD {ds : List PyData} (ha : EvD K ta σ H d) (hb : EvD K tb σ H (.list ds)) (sd : SeqAt.shaped d = true) (se : SeqAt.shaped (.list ds) = true) : EvD K (tOp (rInD K) ta tb) σ H (.bool (ds.any fun z => PyData.eqv z d)) := edB fun H1 a Q q =>
  ha H1 a _ fun x H2 b hx => hb H2 (a.trans b) _ fun y H3 c hy => ⟨d, ds, dpUp c hx, hy, sd, se, q H3 (b.trans c)⟩
theorem edNotInD {ds : List PyData} (ha : EvD K ta σ H d) (hb : EvD K tb σ H (.list ds)) (sd : SeqAt.shaped d = true) (se : SeqAt.shaped (.list ds) = true) : EvD K (tOp (rNotInD K) ta tb) σ H (.bool (!ds.any fun z => PyData.eqv z d)) := edB fun H1 a Q q =>
  ha H1 a _ fun x H2 b hx => hb H2 (a.trans b) _ fun y H3 c hy => ⟨d, ds, dpUp c hx, hy, sd, se, q H3 (b.trans c)⟩
/-- a field -/
theorem edFld {x C dx : Addr} {fs : List (Str × V)} {f : Str} {v : V} (h : Ev te σ H (.ref x)) (hx : H x = some (.ins C dx fs)) (cl : Cls K C) (na : NoAttr K C f) (hl : fs.lookup f = some v) (hd : Dp K H v d) : EvD K (tFld K te f) σ H d := fun H1 a Q q =>
  h H1 a _ fun H2 b => ⟨x, C, dx, fs, v, rfl, b _ _ (a _ _ hx), cl, na, hl, q v H2 b (dpUp (a.trans b) hd)⟩
/-- isinstance of an object: one class -/
theorem edIsiO {x C D0 dx : Addr} {fs : List (Str × V)} {b : Bool} (h : Ev te σ H (.ref x)) (hx : H x = some (.ins C dx fs)) (o : OwnC K C) (hk : PySem.W.kitOne K (.ref C) (.ref D0) = some b) : EvD K (tCB (rIsi K) (tCons te (tCons (tC (.ref D0)) tNil))) σ H (.bool b) := edB fun H1 a Q q =>
  h H1 a _ fun H2 c => ⟨.ref x, .ref D0, _, _, b, rfl, .own D0, .base (.ins (c _ _ (a _ _ hx)) o.cl o.ha o.hn o.tk o.hm), hk, q H2 c⟩
theorem edIsiO2 {x C D0 D1 dx : Addr} {fs : List (Str × V)} {b : Bool} (h : Ev te σ H (.ref x)) (hx : H x = some (.ins C dx fs)) (o : OwnC K C) (hk : PySem.W.kitAny K (.ref C) [.ref D0, .ref D1] = some b) : EvD K (tCB (rIsiT K) (tCons te (tCons (tTup (tCons (tC (.ref D0)) (tCons (tC (.ref D1)) tNil))) tNil))) σ H (.bool b) := edB fun H1 a Q q =>
  h H1 a _ fun H2 c => ⟨by show 2 ≤ sizeLine; decide, fun p hp => ⟨.ref x, p, [.ref D0, .ref D1], _, [.ref D0, .ref D1], b, rfl, upd_same, .cons (.own D0) (.cons (.own D1) .nil), .base (.ins (Ex.new hp _ _ (c _ _ (a _ _ hx))) o.cl o.ha o.hn o.tk o.hm), hk, q _ (c.trans (Ex.new hp))⟩⟩
theorem edIf {b : Bool} (h : EvT t σ H b) (h1 : b = true → EvD K ta σ H d) (h2 : b = false → EvD K tb σ H d) : EvD K (tIf t ta tb) σ H d := fun H1 a Q q => h H1 a _ fun H2 c => by
  cases b with
  | true => exact h1 rfl H2 (a.trans c) _ fun v H3 k hv => q v H3 (c.trans k) hv
  | false => exact h2 rfl H2 (a.trans c) _ fun v H3 k hv => q v H3 (c.trans k) hv
theorem edOr {a b : Bool} (h1 : EvD K ta σ H (.bool a)) (h2 : a = false → EvD K tb σ H (.bool b)) : EvD K (tOrV ta tb) σ H (.bool (a || b)) := edB (ev_orV (evB h1) fun h => evB (h2 h))
theorem qIf {b : Bool} {tu : TS} (h : EvT t σ H b) (h1 : b = true → ∀ H1, Ex H H1 → tu { D with nx := tz D } σ H1) (h2 : b = false → ∀ H1, Ex H H1 → tz D σ H1) : tSeq (tIfS t tu tNext) tz D σ H := q_when h h1 h2
end

/-! what is told -/
inductive Ans where
  | full (r p u : Int)
  | breaks (r p : Int)
  | ended (l : List PyData)
  | out (l : List PyData) (d : Int)
structure Kls where
  full : Addr
  breaks : Addr
  ended : Addr
  out : Addr
/-- a new list of ds at q -/
def NwL (K : PySem.W.Frag) (H0 H : Hp) (q : Addr) (ds : List PyData) : Prop := H0 q = none ∧ ∃ xs, H q = some (.lst xs) ∧ DpAll K H xs ds
def AnsN (c : Kls) (K : PySem.W.Frag) (H0 H : Hp) (x : Addr) : Ans → Prop
  | .full r p u => ∃ dx, H x = some (.ins c.full dx [("row", .int r), ("place", .int p), ("up", .int u)])
  | .breaks r p => ∃ dx, H x = some (.ins c.breaks dx [("row", .int r), ("place", .int p)])
  | .ended l => ∃ dx q, H x = some (.ins c.ended dx [("smalls", .ref q)]) ∧ NwL K H0 H q l
  | .out l d => ∃ dx q, H x = some (.ins c.out dx [("smalls", .ref q), ("door", .int d)]) ∧ NwL K H0 H q l
theorem NwL.up {K : PySem.W.Frag} {H0 H H' : Hp} {q : Addr} {ds : List PyData} (h : NwL K H0 H q ds) (e : Ex H H') : NwL K H0 H' q ds := by
  obtain ⟨h1, xs, h2, h3⟩ := h
  exact ⟨h1, xs, e _ _ h2, dpsUp e h3⟩
theorem NwL.dp {K : PySem.W.Frag} {H0 H : Hp} {q : Addr} {ds : List PyData} (h : NwL K H0 H q ds) : Dp K H (.ref q) (.list ds) := by
  obtain ⟨_, xs, h2, h3⟩ := h
  exact dpOfL h2 h3
theorem AnsN.up {c : Kls} {K : PySem.W.Frag} {H0 H H' : Hp} {x : Addr} {a : Ans} (h : AnsN c K H0 H x a) (e : Ex H H') : AnsN c K H0 H' x a := by
  cases a with
  | full r p u => obtain ⟨dx, h⟩ := h; exact ⟨dx, e _ _ h⟩
  | breaks r p => obtain ⟨dx, h⟩ := h; exact ⟨dx, e _ _ h⟩
  | ended l => obtain ⟨dx, q, h, k⟩ := h; exact ⟨dx, q, e _ _ h, k.up e⟩
  | out l d => obtain ⟨dx, q, h, k⟩ := h; exact ⟨dx, q, e _ _ h, k.up e⟩
theorem AnsN.back {c : Kls} {K : PySem.W.Frag} {H0 H1 H : Hp} {x : Addr} {a : Ans} (e : Ex H0 H1) (h : AnsN c K H1 H x a) : AnsN c K H0 H x a := by
  cases a with
  | full r p u => exact h
  | breaks r p => exact h
  | ended l => obtain ⟨dx, q, h, k⟩ := h; exact ⟨dx, q, h, fresh_back e k.1, k.2⟩
  | out l d => obtain ⟨dx, q, h, k⟩ := h; exact ⟨dx, q, h, fresh_back e k.1, k.2⟩
/-- it tells what it holds -/
def EvAn (c : Kls) (K : PySem.W.Frag) (te : TE) (σ : L2.St) (H : Hp) (a : Ans) : Prop := ∀ H1, Ex H H1 → ∀ Q : VK, (∀ x H2, H1 x = none → Ex H1 H2 → AnsN c K H1 H2 x a → Q (.ref x) H2) → te σ H1 Q
def PrA (c : Kls) (K : PySem.W.Frag) (P : List PyData → Ans → Prop) : Sp := fun vs H Q _ => ∃ ds a, DpAll K H vs ds ∧ P ds a ∧ ∀ x H', H x = none → Ex H H' → AnsN c K H H' x a → Q (.ref x) H'
section
variable {c : Kls} {K : PySem.W.Frag} {σ : L2.St} {H H' : Hp} {te : TE} {a : Ans} {D : Ends} {tz : TS}
theorem praLen {P : List PyData → Ans → Prop} {n : Nat} (hP : ∀ ds d, P ds d → ds.length = n) : ∀ vs H Q E, PrA c K P vs H Q E → vs.length = n := fun vs H Q E ⟨ds, d, h, p, _⟩ => (dpsLen h).trans (hP ds d p)
theorem eaCall {P : List PyData → Ans → Prop} {E : XK} {ta : TA} {ds : List PyData} (h : EvAD K ta σ H ds) (hp : P ds a) : EvAn c K (tCall (PrA c K P) [] E ta) σ H a := fun H1 e Q q =>
  h H1 e _ fun vs H2 b hd => ⟨ds, a, by rw [List.append_nil]; exact hd, hp, fun x H3 h1 k h2 => q x H3 (fresh_back b h1) (b.trans k) (h2.back b)⟩
theorem qAsgA {i : Nat} (h : EvAn c K te σ H a) (k : ∀ x H1, H x = none → Ex H H1 → AnsN c K H H1 x a → tz D (σ.set i (some (.ref x))) H1) : tSeq (tAsg te (gName i)) tz D σ H := h H (Ex.refl H) _ fun x H1 h1 e h2 => k x H1 h1 e h2
theorem sRetA (h : EvAn c K te σ H a) (k : ∀ x H1, H x = none → Ex H H1 → AnsN c K H H1 x a → D.rt (.ref x) H1) : tRet te D σ H := h H (Ex.refl H) _ fun x H1 h1 e h2 => k x H1 h1 e h2
theorem EvAn.upE (e : Ex H H') (h : EvAn c K te σ H a) : EvAn c K te σ H' a := fun H1 b Q q => h H1 (e.trans b) Q q
end
/-! names of fields -/
theorem nPR : (("place" : Str) == "row") = false := by decide +kernel
theorem nUR : (("up" : Str) == "row") = false := by decide +kernel
theorem nUP : (("up" : Str) == "place") = false := by decide +kernel
theorem nDS : (("door" : Str) == "smalls") = false := by decide +kernel
theorem lkHd {f : Str} {v : V} {r : List (Str × V)} : List.lookup f ((f, v) :: r) = some v := by simp [List.lookup]
theorem lkTl {f g : Str} {v : V} {r : List (Str × V)} (h : (f == g) = false) : List.lookup f ((g, v) :: r) = List.lookup f r := by simp [List.lookup, h]
theorem neStr {f g : Str} (h : (f == g) = false) : ¬ g = f := fun e => by
  subst e
  simp at h
theorem putTl {f g : Str} {v x : V} {r : List (Str × V)} (h : (f == g) = false) : putF f v ((g, x) :: r) = (g, x) :: putF f v r := if_neg (neStr h)
theorem putNil {f : Str} {v : V} : putF f v [] = [(f, v)] := rfl
/-! made by a class: what __init__ promises -/
def SpIni3 (C : Addr) : Sp := fun vs H Q _ => ∃ x dx a b d, vs = [.ref x, a, b, d] ∧ H x = some (.ins C dx []) ∧ Q .non (upd H x (.ins C dx [("row", a), ("place", b), ("up", d)]))
def SpIni2 (C : Addr) : Sp := fun vs H Q _ => ∃ x dx a b, vs = [.ref x, a, b] ∧ H x = some (.ins C dx []) ∧ Q .non (upd H x (.ins C dx [("row", a), ("place", b)]))
def SpIniE (K : PySem.W.Frag) (C : Addr) : Sp := fun vs H Q _ => ∃ x dx a xs, vs = [.ref x, .ref a] ∧ SqL K H a xs ∧ H x = some (.ins C dx []) ∧ ∀ p, H p = none → Q .non (upd (upd H p (.lst xs)) x (.ins C dx [("smalls", .ref p)]))
def SpIniO (K : PySem.W.Frag) (C : Addr) : Sp := fun vs H Q _ => ∃ x dx a xs d, vs = [.ref x, .ref a, d] ∧ SqL K H a xs ∧ H x = some (.ins C dx []) ∧ ∀ p, H p = none → Q .non (upd (upd H p (.lst xs)) x (.ins C dx [("smalls", .ref p), ("door", d)]))
section
variable {c : Kls} {K : PySem.W.Frag} {σ : L2.St} {H H' : Hp} {ta : TA} {E : XK}
theorem exMade {x dx C : Addr} (hx : H x = none) (hdx : H dx = none) {o : HO} : Ex H (upd (upd H dx (.own x)) x o) := (Ex.new hdx).mut hx
theorem exMade2 {x dx : Addr} {o1 o2 : HO} (hx : H x = none) (hdx : H dx = none) : Ex H (upd (upd (upd H dx (.own x)) x o1) x o2) := ((Ex.new hdx).mut hx).mut hx
theorem eaFull {r p u : Int} (h : EvAD K ta σ H [.int r, .int p, .int u]) : EvAn c K (tMake c.full (SpIni3 c.full) [] E ta) σ H (.full r p u) := fun H1 e Q q =>
  h H1 e _ fun vs H2 b hd => fun x dx hx hdx _ => by
    obtain ⟨v1, v2, v3, rfl, h1, h2, h3⟩ := dps3 hd
    rw [dpInt h1, dpInt h2, dpInt h3]
    exact ⟨x, dx, _, _, _, rfl, upd_same, rfl, q x _ (fresh_back b hx) (b.trans (exMade2 hx hdx)) ⟨dx, upd_same⟩⟩
theorem eaBreaks {r p : Int} (h : EvAD K ta σ H [.int r, .int p]) : EvAn c K (tMake c.breaks (SpIni2 c.breaks) [] E ta) σ H (.breaks r p) := fun H1 e Q q =>
  h H1 e _ fun vs H2 b hd => fun x dx hx hdx _ => by
    obtain ⟨v1, v2, rfl, h1, h2⟩ := dps2 hd
    rw [dpInt h1, dpInt h2]
    exact ⟨x, dx, _, _, rfl, upd_same, rfl, q x _ (fresh_back b hx) (b.trans (exMade2 hx hdx)) ⟨dx, upd_same⟩⟩
theorem eaEnded {l : List PyData} (hn : noLs l = true) (h : EvAD K ta σ H [.list l]) : EvAn c K (tMake c.ended (SpIniE K c.ended) [] E ta) σ H (.ended l) := fun H1 e Q q =>
  h H1 e _ fun vs H2 b hd => fun x dx hx hdx ne => by
    obtain ⟨v1, rfl, h1⟩ := dps1 hd
    obtain ⟨a, xs, rfl, hs, hr⟩ := dpLst h1
    have e2 : Ex H2 (upd (upd H2 dx (.own x)) x (.ins c.ended dx [])) := (Ex.new hdx).mut hx
    refine ⟨x, dx, a, xs, rfl, ex_l e2 hs, upd_same, fun p hp => ?_⟩
    have px : p ≠ x := fun z => by rw [z, upd_same] at hp; cases hp
    have p2 : H2 p = none := fresh_back e2 hp
    have e3 : Ex H2 (upd (upd (upd (upd H2 dx (.own x)) x (.ins c.ended dx [])) p (.lst xs)) x (.ins c.ended dx [("smalls", .ref p)])) := (e2.mut p2).mut hx
    exact ⟨rfl, q x _ (fresh_back b hx) (b.trans e3) ⟨dx, p, upd_same, fresh_back b p2, xs, by rw [upd_ne px, upd_same], dpsUp e3 hr⟩⟩
theorem eaOut {l : List PyData} {d : Int} (hn : noLs l = true) (h : EvAD K ta σ H [.list l, .int d]) : EvAn c K (tMake c.out (SpIniO K c.out) [] E ta) σ H (.out l d) := fun H1 e Q q =>
  h H1 e _ fun vs H2 b hd => fun x dx hx hdx ne => by
    obtain ⟨v1, v2, rfl, h1, h2⟩ := dps2 hd
    rw [dpInt h2]
    obtain ⟨a, xs, rfl, hs, hr⟩ := dpLst h1
    have e2 : Ex H2 (upd (upd H2 dx (.own x)) x (.ins c.out dx [])) := (Ex.new hdx).mut hx
    refine ⟨x, dx, a, xs, _, rfl, ex_l e2 hs, upd_same, fun p hp => ?_⟩
    have px : p ≠ x := fun z => by rw [z, upd_same] at hp; cases hp
    have p2 : H2 p = none := fresh_back e2 hp
    have e3 : Ex H2 (upd (upd (upd (upd H2 dx (.own x)) x (.ins c.out dx [])) p (.lst xs)) x (.ins c.out dx [("smalls", .ref p), ("door", .int d)])) := (e2.mut p2).mut hx
    exact ⟨rfl, q x _ (fresh_back b hx) (b.trans e3) ⟨dx, p, upd_same, fresh_back b p2, xs, by rw [upd_ne px, upd_same], dpsUp e3 hr⟩⟩
end
end Dt

/-! What each def of the program promises. -/
namespace Dt
open PySem L2 Evl PyProof.Rows

theorem eqvStr (a b : Str) : PyData.eqv (.str a) (.str b) = decide (a = b) := by
  unfold PyData.eqv
  rfl
theorem signIs {c k : Nat} {x : Str} (hx : x = ⟨#[k]⟩) : decide ((⟨#[c]⟩ : Str) = x) = decide (c = k) := by
  subst hx
  by_cases h : c = k
  · rw [h, decide_eq_true rfl, decide_eq_true rfl]
  · rw [decide_eq_false h]
    refine decide_eq_false fun z => h ?_
    have e := congrArg (fun s : Str => s.cps[0]?) z
    simpa using e
theorem isA : ("a" : Str) = ⟨#[97]⟩ := by decide +kernel
theorem isB : ("b" : Str) = ⟨#[98]⟩ := by decide +kernel
theorem isC : ("c" : Str) = ⟨#[99]⟩ := by decide +kernel
section
variable {K : PySem.W.Frag} {σ : L2.St} {H H' : Hp} {ta tb te : TE}
theorem strShaped {x : Str} (h : ∀ c ∈ x.cps.toList, Code c) : SeqAt.shaped (.str x) = true := shp (okS (l := x.cps.toList) h 0)
theorem signShaped {c : Nat} (h : Code c) : SeqAt.shaped (.str ⟨#[c]⟩) = true := strShaped (x := ⟨#[c]⟩) fun d hd => by
  have : d = c := by simpa using hd
  rw [this]
  exact h
/-- a letter == a written letter -/
theorem edEqC {c k : Nat} {x : Str} (hc : Code c) (hk : Code k) (hx : x = ⟨#[k]⟩) (ha : EvD K ta σ H (.str ⟨#[c]⟩)) (hb : EvD K tb σ H (.str x)) : EvD K (tOp (rEqD K) ta tb) σ H (.bool (decide (c = k))) := by
  refine edB (ev_is (evEq ha hb (signShaped hc) (by rw [hx]; exact signShaped hk)) ?_)
  rw [eqvStr, signIs hx]
end

def spZ (s : Int × Int) : PyData := .tuple [.int s.1, .int s.2]
def smZ (r p u : Int) : PyData := .tuple [.int r, .int p, .int u]
def spotB (n : Nat) (r p : Int) : Bool := decide (0 ≤ r ∧ 0 ≤ p ∧ r + p < (n : Int))
def smB (n : Nat) (r p u : Int) : Bool := decide ((u = 1 ∧ 0 ≤ r ∧ 0 ≤ p ∧ r + p + 1 < (n : Int)) ∨ (u = 0 ∧ 0 ≤ r ∧ 0 ≤ p ∧ r + p + 2 < (n : Int)))
def crnZ (r p u : Int) : List (Int × Int) := if u = 1 then [(r, p), (r, p + 1), (r + 1, p)] else [(r, p + 1), (r + 1, p + 1), (r + 1, p)]
theorem crnNat {r p u : Nat} : (crnZ r p u).map spZ = (crn r p u).map spD := by
  unfold crnZ crn
  by_cases h : u = 1
  · rw [if_pos (by omega), if_pos h]
    rfl
  · rw [if_neg (by omega), if_neg h]
    rfl
theorem crnAll {n : Nat} {r p u : Int} (hu : u = 0 ∨ u = 1) : (crnZ r p u).all (fun s => spotB n s.1 s.2) = smB n r p u := by
  unfold crnZ smB
  rcases hu with rfl | rfl
  · rw [if_neg (by decide)]
    simp only [List.all_cons, List.all_nil, Bool.and_true, spotB]
    rw [Bool.eq_iff_iff]
    simp only [Bool.and_eq_true, decide_eq_true_eq]
    exact ⟨fun h => .inr ⟨trivial, by omega⟩, fun h => by rcases h with ⟨h, _⟩ | ⟨_, h⟩ <;> omega⟩
  · rw [if_pos rfl]
    simp only [List.all_cons, List.all_nil, Bool.and_true, spotB]
    rw [Bool.eq_iff_iff]
    simp only [Bool.and_eq_true, decide_eq_true_eq]
    exact ⟨fun h => .inl ⟨trivial, by omega⟩, fun h => by rcases h with ⟨_, h⟩ | ⟨h, _⟩ <;> omega⟩
theorem smOfB {n : Nat} {r p u : Int} (h : smB n r p u = true) : ∃ r' p' u' : Nat, r = r' ∧ p = p' ∧ u = u' ∧ isSm n (r', p', u') := by
  have h := of_decide_eq_true h
  rcases h with ⟨h1, h2, h3, h4⟩ | ⟨h1, h2, h3, h4⟩
  · refine ⟨r.toNat, p.toNat, 1, by omega, by omega, by omega, .inl ⟨rfl, ?_⟩⟩
    show r.toNat + p.toNat + 1 < n
    omega
  · refine ⟨r.toNat, p.toNat, 0, by omega, by omega, by omega, .inr ⟨rfl, ?_⟩⟩
    show r.toNat + p.toNat + 2 < n
    omega
theorem smBOf {n r p u : Nat} (h : isSm n (r, p, u)) : smB n r p u = true := by
  refine decide_eq_true ?_
  rcases h with ⟨h1, h2⟩ | ⟨h1, h2⟩
  · have h1 : u = 1 := h1
    have h2 : r + p + 1 < n := h2
    exact .inl ⟨by omega, by omega, by omega, by omega⟩
  · have h1 : u = 0 := h1
    have h2 : r + p + 2 < n := h2
    exact .inr ⟨by omega, by omega, by omega, by omega⟩
/-- the rule broken at a spot -/
def brk (n : Nat) (g : Nat → Nat → Nat) (r p : Nat) : Bool := (decide (r = 0) && decide (g r p = 99)) || (decide (p = 0) && decide (g r p = 98)) || (decide (r + p + 1 = n) && decide (g r p = 97))
def brkB (n : Nat) (g : Nat → Nat → Nat) (r p : Int) : Bool := spotB n r p && brk n g r.toNat p.toNat
def fullB (n : Nat) (g : Nat → Nat → Nat) (r p u : Int) : Bool := smB n r p u && !decide (trn g (r.toNat, p.toNat, u.toNat) = 0)
def ltr (g : Nat → Nat → Nat) (l : List (Nat × Nat)) : List Nat := l.map fun s => g s.1 s.2
theorem ltrSigns (g : Nat → Nat → Nat) (l : List (Nat × Nat)) : (l.map fun s => PyData.str ⟨#[g s.1 s.2]⟩) = ((ltr g l).map fun c => (⟨#[c]⟩ : Str)).map PyData.str := by
  unfold ltr
  rw [List.map_map, List.map_map]
  rfl

theorem inUp (u : Int) : (if true then !inV (.int u) [.int 0, .int 1] else inV (.int u) [.int 0, .int 1]) = !decide (u = 0 ∨ u = 1) := by
  show (!(eqV (.int 0) (.int u) || (eqV (.int 1) (.int u) || false))) = _
  have e : ∀ a b : Int, eqV (.int a) (.int b) = decide (a = b) := fun a b => by
    unfold eqV
    by_cases h : a = b
    · simp [h]
    · simp [h]
  rw [e, e, Bool.or_false]
  congr 1
  rw [Bool.eq_iff_iff]
  simp only [Bool.or_eq_true, decide_eq_true_eq]
  omega
def Q_spot : List PyData → PyData → Prop := fun ds d => ∃ (n : Nat) (g : Nat → Nat → Nat) (r p : Int), Tri n g ∧ ds = [.list (triD n g), .int r, .int p] ∧ d = .bool (spotB n r p)
def Q_corners : List PyData → List PyData → Prop := fun ds es => ∃ r p u : Int, (u = 0 ∨ u = 1) ∧ ds = [smZ r p u] ∧ es = (crnZ r p u).map spZ
def Q_small : List PyData → PyData → Prop := fun ds d => ∃ (n : Nat) (g : Nat → Nat → Nat) (r p u : Int), Tri n g ∧ ds = [.list (triD n g), smZ r p u] ∧ d = .bool (smB n r p u)
def Q_letters_at : List PyData → PyData → Prop := fun ds d => ∃ n g l, Tri n g ∧ (∀ s ∈ l, s.1 + s.2 < n) ∧ l.length ≤ 10 ∧ (ds = [.list (triD n g), .list (l.map spD)] ∨ ds = [.list (triD n g), .tuple (l.map spD)]) ∧ d = .str (sOf (ltr g l))
def Q_breaks_rule : List PyData → PyData → Prop := fun ds d => ∃ n g r p, Tri n g ∧ r + p < n ∧ ds = [.list (triD n g), .int (r : Nat), .int (p : Nat)] ∧ d = .bool (brk n g r p)
/-! the steps of the side -/
def stD (s : (Nat × Nat) × Nat × Nat) : PyData := .tuple [spD s.1, spD s.2]
def rotP (l : List (Nat × Nat)) : List (Nat × Nat) := l.drop 1 ++ l.take 1
def steps (n : Nat) : List ((Nat × Nat) × Nat × Nat) := (spots n).zip (rotP (spots n))
theorem stepsLen (n : Nat) : (steps n).length = (n - 1) + (n - 1) + (n - 1) := by
  unfold steps rotP
  rw [List.length_zip, List.length_append, List.length_drop, List.length_take, spotsLen]
  omega
theorem stepsIn {n : Nat} (h : 2 ≤ n) : ∀ s ∈ steps n, s.1.1 + s.1.2 < n ∧ s.2.1 + s.2.2 < n := by
  intro s hs
  obtain ⟨a, b⟩ := s
  have z := List.of_mem_zip hs
  refine ⟨spotsIn h _ z.1, spotsIn h _ ?_⟩
  have z2 := z.2
  unfold rotP at z2
  rw [List.mem_append] at z2
  exact z2.elim (fun q => List.mem_of_mem_drop q) fun q => List.mem_of_mem_take q
def stC (g : Nat → Nat → Nat) (s : (Nat × Nat) × Nat × Nat) : Nat × Nat := (g s.1.1 s.1.2, g s.2.1 s.2.2)
theorem stepsPairs (n : Nat) (g : Nat → Nat → Nat) : (steps n).map (stC g) = pairs (codes n g) := by
  refine List.ext_getElem? fun i => ?_
  have lz : ∀ {α β : Type} (l : List α) (m : List β), (l.zip m)[i]? = (l[i]?).bind fun a => (m[i]?).map fun b => (a, b) := fun l m => by
    cases h1 : l[i]? with
    | none => rw [List.getElem?_eq_none (by rw [List.length_zip]; have := List.getElem?_eq_none_iff.mp h1; omega)]; rfl
    | some a => cases h2 : m[i]? with
      | none => rw [List.getElem?_eq_none (by rw [List.length_zip]; have := List.getElem?_eq_none_iff.mp h2; omega)]; rfl
      | some b => exact List.getElem?_zip_eq_some.mpr ⟨h1, h2⟩
  have er : rot (codes n g) = (rotP (spots n)).map fun s => g s.1 s.2 := by
    unfold rot rotP codes
    rw [List.map_append, List.map_drop, List.map_take]
  unfold steps pairs
  rw [List.getElem?_map, lz, lz, er, List.getElem?_map]
  unfold codes
  rw [List.getElem?_map]
  cases (spots n)[i]? with
  | none => rfl
  | some a => cases (rotP (spots n))[i]? with
    | none => rfl
    | some b => rfl
theorem spD_ok (s : Nat × Nat) : okD 1 (spD s) := okT fun d hd => by
  rcases List.mem_cons.mp hd with rfl | hd
  · exact okI _ 0
  · rw [List.mem_singleton] at hd
    subst hd
    exact okI _ 0
theorem stD_noL (s : (Nat × Nat) × Nat × Nat) : noL (stD s) = true := by
  unfold stD
  rw [noL, noLs, spD_noL, noLs, spD_noL, noLs]
  rfl
def Q_side_spots : List PyData → List PyData → Prop := fun ds es => ∃ n g, Tri n g ∧ ds = [.list (triD n g)] ∧ es = (spots n).map spD
def Q_side_steps : List PyData → List PyData → Prop := fun ds es => ∃ n g, Tri n g ∧ ds = [.list (triD n g)] ∧ es = (steps n).map stD
def drB (g : Nat → Nat → Nat) (s : (Nat × Nat) × Nat × Nat) : Bool := isAB (stC g s) || isBA (stC g s)
def Q_is_door : List PyData → PyData → Prop := fun ds d => ∃ n g s, Tri n g ∧ s.1.1 + s.1.2 < n ∧ s.2.1 + s.2.2 < n ∧ ds = [.list (triD n g), stD s] ∧ d = .bool (drB g s)
/-! what is told of a triangle -/
def spotsAll (n : Nat) : List (Nat × Nat) := (List.range n).flatMap fun r => (List.range (n - r)).map fun p => (r, p)
def firstBrk (n : Nat) (g : Nat → Nat → Nat) : Option (Nat × Nat) := (spotsAll n).find? fun s => brk n g s.1 s.2
def toldOf (n : Nat) (g : Nat → Nat → Nat) : Ans := match firstBrk n g with
  | some s => .breaks (s.1 : Nat) (s.2 : Nat)
  | none => match fullsOf n g with
    | s :: _ => .full (s.1 : Nat) (s.2.1 : Nat) (s.2.2 : Nat)
    | [] => .breaks (-1) (-1)
def Q_told : List PyData → Ans → Prop := fun ds a => ∃ n g, Tri n g ∧ ds = [.list (triD n g)] ∧ a = toldOf n g
theorem findFlat {α β : Type} (f : α → List β) (q : β → Bool) : ∀ (l : List α), (l.flatMap f).find? q = (l.find? fun a => ((f a).find? q).isSome).bind fun a => (f a).find? q
  | [] => rfl
  | a :: l => by
    rw [List.flatMap_cons, List.find?_append, findFlat f q l, List.find?_cons]
    cases h : (f a).find? q with
    | none => simp
    | some b => simp [h]
theorem findRange (q : Nat → Bool) (m i : Nat) (hi : i < m) (h : ∀ j, j < i → q j = false) (hq : q i = true) : (List.range m).find? q = some i := by
  have e : List.range m = List.range i ++ (List.range (m - i)).map (fun k => i + k) := by
    have := rangeApp (fun k => k) i (m - i)
    rw [List.map_id', List.map_id', show i + (m - i) = m by omega] at this
    exact this
  rw [e, List.find?_append, List.find?_eq_none.mpr fun j hj => by rw [h j (List.mem_range.mp hj)]; decide]
  obtain ⟨k, hk⟩ : ∃ k, m - i = k + 1 := ⟨m - i - 1, by omega⟩
  rw [hk, List.range_succ_eq_map, List.map_cons, List.find?_cons, Nat.add_zero, hq]
  rfl
theorem firstIs {n : Nat} {g : Nat → Nat → Nat} {r p : Nat} (hr : r < n) (hp : p < n - r) (h1 : ∀ r', r' < r → ∀ p', p' < n - r' → brk n g r' p' = false) (h2 : ∀ p', p' < p → brk n g r p' = false) (hb : brk n g r p = true) : firstBrk n g = some (r, p) := by
  have one : ((List.range (n - r)).map fun p => (r, p)).find? (fun s => brk n g s.1 s.2) = some (r, p) := by
    rw [List.find?_map]
    have := findRange ((fun s => brk n g s.1 s.2) ∘ fun p => (r, p)) (n - r) p hp h2 hb
    rw [this]
    rfl
  unfold firstBrk spotsAll
  rw [findFlat, findRange _ n r hr (fun j hj => ?_) (by rw [one]; rfl)]
  · exact one
  · rw [List.find?_eq_none.mpr]
    · rfl
    · intro s hs
      obtain ⟨p', hp', rfl⟩ := List.mem_map.mp hs
      rw [h1 j hj p' (List.mem_range.mp hp')]
      decide
theorem firstNone {n : Nat} {g : Nat → Nat → Nat} (h : ∀ r, r < n → ∀ p, p < n - r → brk n g r p = false) : firstBrk n g = none := by
  unfold firstBrk
  rw [List.find?_eq_none]
  intro s hs
  obtain ⟨r, hr, hs⟩ := List.mem_flatMap.mp hs
  obtain ⟨p, hp, rfl⟩ := List.mem_map.mp hs
  rw [h r (List.mem_range.mp hr) p (List.mem_range.mp hp)]
  decide
theorem keepsOf {n : Nat} {g : Nat → Nat → Nat} (h2 : 2 ≤ n) (h : ∀ r, r < n → ∀ p, p < n - r → brk n g r p = false) : Keeps n g := by
  constructor
  · intro p hp
    have z := h 0 (by omega) p (by omega)
    unfold brk at z
    simp only [Bool.or_eq_false_iff, Bool.and_eq_false_iff, decide_eq_false_iff_not] at z
    intro e
    rcases z.1.1 with z | z
    · exact z trivial
    · exact z e
  · intro r hr
    have z := h r hr 0 (by omega)
    unfold brk at z
    simp only [Bool.or_eq_false_iff, Bool.and_eq_false_iff, decide_eq_false_iff_not] at z
    intro e
    rcases z.1.2 with z | z
    · exact z trivial
    · exact z e
  · intro r hr
    have z := h r hr (n - 1 - r) (by omega)
    unfold brk at z
    simp only [Bool.or_eq_false_iff, Bool.and_eq_false_iff, decide_eq_false_iff_not] at z
    intro e
    rcases z.2 with z | z
    · exact z (by omega)
    · exact z e
theorem fullEx {n : Nat} {g : Nat → Nat → Nat} (tri : Tri n g) (h : firstBrk n g = none) : ∃ s l, fullsOf n g = s :: l := by
  have all : ∀ r, r < n → ∀ p, p < n - r → brk n g r p = false := fun r hr p hp => by
    unfold firstBrk at h
    rw [List.find?_eq_none] at h
    have z := h (r, p) (List.mem_flatMap.mpr ⟨r, List.mem_range.mpr hr, List.mem_map.mpr ⟨p, List.mem_range.mpr hp, rfl⟩⟩)
    simpa using z
  obtain ⟨s, hs, ht⟩ := sperner tri (keepsOf tri.lo all)
  cases e : fullsOf n g with
  | cons s l => exact ⟨s, l, rfl⟩
  | nil =>
    have : s ∈ fullsOf n g := List.mem_filter.mpr ⟨hs, by rw [decide_eq_false ht]; rfl⟩
    rw [e] at this
    cases this
end Dt

/-! replace, where a written number has given a token out; is not of truths. -/
namespace Dt
open PySem L2 Evl PyProof.Rows
/-- an expression behind which a token is out -/
structure PEK (X : Cx) (e : Expr) (t : TE) : Prop where
  run : ∀ (pins : List (Addr × Obj)) (s : Shared) (σ : L2.St) (H : Hp) (Q : VK), Inv X pins σ H s → t σ H Q → wpAny (model X.prog X.w) X.A (eval e X.env) (fun u s' => 1 ≤ s'.toks ∧ EP X pins σ Q u s') X.xe s
section
variable {X : Cx} {a b o : Expr} {ta tb to : TE} {t : TT} {pos p2 apos : Pos} {j : Nat} {i : Int}
theorem pe_ixK {r : R2} (hr : IxR X r) (ha : PE X a ta) (hs : PlainIx (.Constant (.int i) j p2)) : PEK X (.Subscript a (.Constant (.int i) j p2) pos) (tOp r ta (tC (.int i))) := by
  refine ⟨fun pins s σ H Q I h => Subscript_ (thn (ha.run pins s σ H _ I h) fun v s1 w1 => wpAny_Constant_int ?_)⟩
  obtain ⟨x, H1, I1, r1, q1⟩ := w1
  exact wpAny_mono (PySem.wpAny_toks (hr a _ pins _ σ H1 x (V.int i) v _ Q (I1.tok (s1.toks + 1)) r1 ⟨s1.toks, rfl⟩ q1 (hs _ _))) (fun u s' w => ⟨Nat.le_trans (Nat.le_add_left 1 s1.toks) w.1, w.2⟩) fun _ _ w => w.2
theorem pe_replK {y z : Str} {k : Nat} {c0 c1 : Pos} (ho : PEK X o to) (hyz : (y == z) = false := by decide +kernel)
    (hst : starEach [.Constant (.str y) j c0, .Constant (.str z) k c1] X.env = [(false, eval (.Constant (.str y) j c0) X.env), (false, eval (.Constant (.str z) k c1) X.env)] := by rfl) (hbase : attributeBase o "replace" X.env (eval o X.env) = eval o X.env := by rfl) (hline : (apos.endLine == pos.line) = true := by rfl) :
    PE X (.Call (.Attribute o "replace" apos) [.Constant (.str y) j c0, .Constant (.str z) k c1] [] pos) (CwR.tReplC to y z) := by
  refine ⟨fun pins s σ H Q I h => PySem.Call_method2 hbase hst hline (thn (ho.run pins s σ H _ I h) fun v s1 w => ?_)⟩
  obtain ⟨hk, v', H1, I1, r1, x, rfl, hb, q⟩ := w
  obtain ⟨tx, rfl⟩ := r1
  refine ⟨"str", _, PySem.F.plainAttrs_str, PySem.F.slot_str_replace, PySem.F.type_str_replace, typeIs_str _ _ _, (fun _ e => nomatch e), Calls.callWith_builtin rfl (Calls.evalArgs_plain (Calls.spliced_cons (Calls.Constant_str (Calls.spliced_cons (Calls.Constant_str (Calls.spliced_nil ?_))))))⟩
  exact PySem.SC.replace (by show s1.toks ≠ 0; omega) (by show s1.toks + 1 ≠ 0; omega) (by show s1.toks ≠ s1.toks + 1; omega) hyz hb fun t' n => ⟨V.str (Txt.replace x y z), H1, I1.tok n, ⟨t', rfl⟩, q⟩
theorem pe_ifExpK {c : Expr} (hc : PTK X c t) (ha : PET X a ta) (hb : PET X b tb) : PE X (.IfExp c a b pos) (tIf t ta tb) := by
  refine ⟨fun pins s σ H Q I h => wpAny_IfExp (thn (hc.run pins s σ H _ I h) fun d s1 w => ?_)⟩
  obtain ⟨hk, H1, I1, q1⟩ := w
  cases d with
  | true => exact ha pins s1 σ H1 Q hk I1 q1
  | false => exact hb pins s1 σ H1 Q hk I1 q1
def rNotB : R2 := fun x y H Q => ∃ m n, x = .bl m ∧ y = .bl n ∧ Q (.bl (!decide (m = n))) H
theorem op_notB : OpR X (compareOp .IsNot) rNotB := by
  intro pins s σ H x y v u Q I rx ry h
  obtain ⟨m, n, rfl, rfl, q⟩ := h
  cases (show v = Value.bool m from rx)
  cases (show u = Value.bool n from ry)
  by_cases e : m = n
  · subst e
    exact wpAny_isNot_self rfl ⟨.bl false, H, I, rfl, by simpa using q⟩
  · exact wpAny_isNot_other rfl (fun z => e (Value.bool.inj z)) ⟨.bl true, H, I, rfl, by simpa [e] using q⟩
end
section
variable {K : PySem.W.Frag} {σ : L2.St} {H : Hp} {te tb : TE} {d : PyData}
theorem edNotB {m n : Bool} (ha : EvD K te σ H (.bool m)) (hb : EvD K tb σ H (.bool n)) : EvD K (tOp rNotB te tb) σ H (.bool (!decide (m = n))) := edB fun H1 a Q q => evB ha H1 a _ fun H2 b => evB hb H2 (a.trans b) _ fun H3 c => ⟨m, n, rfl, rfl, q H3 (b.trans c)⟩
theorem edRepl {x y z : Str} (h : EvD K te σ H (.str x)) (hl : x.length + (x.length + 1) * z.length ≤ 16777216) : EvD K (CwR.tReplC te y z) σ H (.str (Txt.replace x y z)) := edS fun H1 a Q q => evS h H1 a _ fun H2 b => ⟨x, rfl, hl, q H2 b⟩
end
end Dt

/-! Texts turned round, signs replaced; answers asked for their word. -/
namespace Dt
open PySem L2 Evl PyProof.Rows
open PySem.StrLaws (replL replL_nil replL_hit replL_miss replace_list)

theorem roomU {k : Nat} {A : Around} (hr : Room k A) : A.units + 65 < cLine := by have := hr.un; omega
theorem room10 {k : Nat} {A : Around} (hr : Room k A) : A.units + 10 < cLine := by have := hr.un; omega
theorem room8 {k : Nat} {A : Around} (hr : Room k A) : A.units + 8 < cLine := by have := hr.un; omega
/-! s[::-1] -/
def revS (x : Str) : Str := ⟨x.cps.toList.reverse.toArray⟩
theorem pickRev (x : Str) : (Builtin.Str.strSliceIndices none none (-1) x.length).filterMap (x.cps[·]?) = x.cps.toList.reverse := by
  have hs : x.cps.size = x.length := rfl
  rw [picked_rev, filterMap_get _ _ fun i hi => by
    obtain ⟨k, hk, rfl⟩ := List.mem_map.mp hi
    rw [List.mem_range] at hk
    omega]
  refine List.ext_getElem? fun i => ?_
  rw [List.map_map, List.getElem?_map]
  by_cases hi : i < x.length
  · rw [List.getElem?_range hi, List.getElem?_reverse (by rw [Array.length_toList]; omega), Array.length_toList, Array.getElem?_toList, hs, Array.getElem?_eq_getElem (by omega)]
    show some (x.cps.getD (x.length - 1 - i) 0) = _
    have : x.length - 1 - i < x.cps.size := by omega
    simp [Array.getD, this]
  · rw [List.getElem?_eq_none (by rw [List.length_range]; omega), List.getElem?_eq_none (by rw [List.length_reverse, Array.length_toList]; omega)]
    rfl
def tRevS (te : TE) : TE := fun σ H Q => te σ H fun x H1 => ∃ z, x = .str z ∧ z.length ≤ sizeLine ∧ Q (.str (revS z)) H1
theorem pe_revS {X : Cx} {e : Expr} {te : TE} {k : Nat} {p1 p2 p3 pos : Pos} (he : PE X e te) : PE X (.Subscript e (.Slice none none (some (.UnaryOp .USub (.Constant (.int 1) k p1) p2)) p3) pos) (tRevS te) := by
  refine ⟨fun pins s σ H Q I h => Subscript_ (thn (he.run pins s σ H _ I h) fun v s1 w => ?_)⟩
  obtain ⟨x, H1, I1, r1, z, rfl, hz, q⟩ := w
  obtain ⟨t, rfl⟩ := r1
  refine wpAny_Slice (thn (po_none.run pins s1 σ H1 (fun o H2 => o = none ∧ H2 = H1) I1 ⟨rfl, rfl⟩) fun vl s2 w2 => thn (po_none.run pins s2 σ H1 (fun o H3 => o = none ∧ H3 = H1) (by obtain ⟨l, H2, I2, _, rfl, rfl⟩ := w2; exact I2) ⟨rfl, rfl⟩) fun vu s3 w3 => ?_)
  obtain ⟨l, H2, I2, pl, el, e2⟩ := w2
  obtain ⟨u, H3, I3, pu, eu, e3⟩ := w3
  subst el e2 eu e3
  refine thn ((po_some (pe_un un_neg pe_int)).run pins s3 σ H3 (fun o H4 => o = some (-1) ∧ H4 = H3) I3 ⟨1, rfl, -1, rfl, rfl, rfl⟩) fun vs s4 w4 => ?_
  obtain ⟨o, H4, I4, ps, eo, e4⟩ := w4
  subst eo e4
  have I5 : Inv X pins σ H4 { s4 with heap := s4.heap.push { cls := .type "slice", data := .fields #[vl, vu, vs] } } := I4.kept (t' := s4.toks) fun b ob y => Heap.get?_push_of_some _ y
  obtain ⟨l', rfl, hl'⟩ := IsPart.raw pl
  obtain ⟨u', rfl, hu'⟩ := IsPart.raw pu
  obtain ⟨w', rfl, hw'⟩ := IsPart.raw ps
  refine tail_any (ops := [.str z t, .ref s4.heap.objs.size]) (typeIs_str _ _ _) (PySem.F.slot_str_getitem.lookup) ?_ (by with_unfolding_all rfl)
  refine wpAny_getItem_str_slice (l := l') (u := u') (st := w') ⟨_, Heap.get?_push_size _ rfl, rfl, rfl⟩ (by rw [hw']; rfl) ?_
  have e0 : sliceMade z t l' u' w' = .str (revS z) := by
    unfold sliceMade slicePicked
    rw [hw', hl', hu']
    show (if ((-1 : Int) == 1 && _) = true then _ else Made.str ⟨((Builtin.Str.strSliceIndices none none (-1) z.length).filterMap (z.cps[·]?)).toArray⟩) = _
    rw [if_neg (fun h => by rw [show ((-1 : Int) == 1) = false from rfl, Bool.false_and] at h; cases h), pickRev]
    rfl
  rw [e0]
  exact ⟨by show (z.cps.toList.reverse.toArray).size ≤ sizeLine; rw [List.size_toArray, List.length_reverse, Array.length_toList]; exact hz, .str (revS z), H4, I5.tok _, ⟨_, rfl⟩, q⟩
theorem revSOf (l : List Nat) : revS (sOf l) = sOf l.reverse := rfl
section
variable {K : PySem.W.Frag} {σ : L2.St} {H H' : Hp} {te tb : TE} {ta : TA} {d : PyData}
theorem edRevS {x : Str} (h : EvD K te σ H (.str x)) (hl : x.length ≤ 100000) : EvD K (tRevS te) σ H (.str (revS x)) := edS fun H1 a Q q => evS h H1 a _ fun H2 b => ⟨x, rfl, sz_of hl, q H2 b⟩
end
/-! one sign replaced by one sign -/
def swp (c d : Nat) (l : List Nat) : List Nat := l.map fun k => if k = c then d else k
theorem replOne (c d : Nat) : ∀ l : List Nat, replL [c] [d] l = swp c d l
  | [] => by rw [replL_nil]; rfl
  | k :: l => by
    by_cases h : k = c
    · subst h
      rw [replL_hit (by simp) (by simp)]
      show [d] ++ replL [k] [d] l = _
      rw [replOne k d l]
      unfold swp
      rw [List.map_cons, if_pos rfl]
      rfl
    · rw [replL_miss (by simpa using h), replOne c d l]
      unfold swp
      rw [List.map_cons, if_neg h]
theorem replSign (c d : Nat) (l : List Nat) : Txt.replace (sOf l) ⟨#[c]⟩ ⟨#[d]⟩ = sOf (swp c d l) := by
  have e := replace_list (x := sOf l) (y := ⟨#[c]⟩) (z := ⟨#[d]⟩) (Nat.le_refl 1)
  have e2 : (Txt.replace (sOf l) ⟨#[c]⟩ ⟨#[d]⟩).cps.toList = swp c d l := by
    rw [e]
    exact replOne c d l
  have e3 := sOfSelf (Txt.replace (sOf l) ⟨#[c]⟩ ⟨#[d]⟩)
  rw [← e3, e2]
/-! the answer's own word -/
def SpFull (K : PySem.W.Frag) (c : Kls) : Sp := fun vs H Q _ => ∃ x v dx n g r p u, vs = [.ref x, v] ∧ Tri n g ∧ Dp K H v (.list (triD n g)) ∧ H x = some (.ins c.full dx [("row", .int r), ("place", .int p), ("up", .int u)]) ∧ ∀ H', Ex H H' → Q (.bl (fullB n g r p u)) H'
def SpBreaks (K : PySem.W.Frag) (c : Kls) : Sp := fun vs H Q _ => ∃ x v dx n g r p, vs = [.ref x, v] ∧ Tri n g ∧ Dp K H v (.list (triD n g)) ∧ H x = some (.ins c.breaks dx [("row", .int r), ("place", .int p)]) ∧ ∀ H', Ex H H' → Q (.bl (brkB n g r p)) H'
/-- what an answer says of a triangle -/
def dueB (n : Nat) (g : Nat → Nat → Nat) : Ans → Bool
  | .full r p u => fullB n g r p u
  | .breaks r p => brkB n g r p
  | _ => false
def clsOf (c : Kls) : Ans → Addr
  | .full .. => c.full
  | .breaks .. => c.breaks
  | .ended .. => c.ended
  | .out .. => c.out
theorem AnsN.ins {c : Kls} {K : PySem.W.Frag} {H0 H : Hp} {x : Addr} {a : Ans} (h : AnsN c K H0 H x a) : ∃ dx fs, H x = some (.ins (clsOf c a) dx fs) := by
  cases a with
  | full r p u => obtain ⟨dx, h⟩ := h; exact ⟨_, _, h⟩
  | breaks r p => obtain ⟨dx, h⟩ := h; exact ⟨_, _, h⟩
  | ended l => obtain ⟨dx, q, h, _⟩ := h; exact ⟨_, _, h⟩
  | out l d => obtain ⟨dx, q, h, _⟩ := h; exact ⟨_, _, h⟩
section
variable {c : Kls} {K : PySem.W.Frag} {σ : L2.St} {H H' : Hp} {te : TE} {ta : TA}
theorem noShows1 {a b d : V} : List.lookup ("shows" : Str) [("row", a), ("place", b), ("up", d)] = none := by
  rw [lkTl (by decide +kernel), lkTl (by decide +kernel), lkTl (by decide +kernel)]
  rfl
theorem noShows2 {a b : V} : List.lookup ("shows" : Str) [("row", a), ("place", b)] = none := by
  rw [lkTl (by decide +kernel), lkTl (by decide +kernel)]
  rfl
theorem edFullShows {x dx : Addr} {n : Nat} {g : Nat → Nat → Nat} {r p u : Int} {E : XK} (tri : Tri n g) (h : Ev te σ H (.ref x)) (hx : H x = some (.ins c.full dx [("row", .int r), ("place", .int p), ("up", .int u)])) (ha : EvAD K ta σ H [.list (triD n g)]) : EvD K (tMeth c.full "shows" (SpFull K c) [] E te ta) σ H (.bool (fullB n g r p u)) := edB fun H1 e Q q =>
  h H1 e _ fun H2 b => ⟨x, dx, _, rfl, b _ _ (e _ _ hx), noShows1, ha H2 (e.trans b) _ fun vs H3 k hd => by
    obtain ⟨v, rfl, h1⟩ := dps1 hd
    exact ⟨x, v, dx, n, g, r, p, u, rfl, tri, h1, k _ _ (b _ _ (e _ _ hx)), fun H4 l => q H4 ((b.trans k).trans l)⟩⟩
theorem edBreaksShows {x dx : Addr} {n : Nat} {g : Nat → Nat → Nat} {r p : Int} {E : XK} (tri : Tri n g) (h : Ev te σ H (.ref x)) (hx : H x = some (.ins c.breaks dx [("row", .int r), ("place", .int p)])) (ha : EvAD K ta σ H [.list (triD n g)]) : EvD K (tMeth c.breaks "shows" (SpBreaks K c) [] E te ta) σ H (.bool (brkB n g r p)) := edB fun H1 e Q q =>
  h H1 e _ fun H2 b => ⟨x, dx, _, rfl, b _ _ (e _ _ hx), noShows2, ha H2 (e.trans b) _ fun vs H3 k hd => by
    obtain ⟨v, rfl, h1⟩ := dps1 hd
    exact ⟨x, v, dx, n, g, r, p, rfl, tri, h1, k _ _ (b _ _ (e _ _ hx)), fun H4 l => q H4 ((b.trans k).trans l)⟩⟩
/-- of an answer that stands | that is just told -/
theorem edIsiX {x D0 : Addr} {a : Ans} {H0 : Hp} {b : Bool} (h : Ev te σ H (.ref x)) (hx : AnsN c K H0 H x a) (o : OwnC K (clsOf c a)) (hk : PySem.W.kitOne K (.ref (clsOf c a)) (.ref D0) = some b) : EvD K (tCB (rIsi K) (tCons te (tCons (tC (.ref D0)) tNil))) σ H (.bool b) := by
  obtain ⟨dx, fs, hx⟩ := hx.ins
  exact edIsiO h hx o hk
theorem edIsiA {D0 : Addr} {a : Ans} {b : Bool} (h : EvAn c K te σ H a) (o : OwnC K (clsOf c a)) (hk : PySem.W.kitOne K (.ref (clsOf c a)) (.ref D0) = some b) : EvD K (tCB (rIsi K) (tCons te (tCons (tC (.ref D0)) tNil))) σ H (.bool b) := edB fun H1 e Q q =>
  h H1 e _ fun x H2 hn k hx => by
    obtain ⟨dx, fs, hx⟩ := hx.ins
    exact ⟨.ref x, .ref D0, _, _, b, rfl, .own D0, .base (.ins hx o.cl o.ha o.hn o.tk o.hm), hk, q H2 k⟩
/-- a field of an answer that is just told -/
theorem edFldA {f : Str} {a : Ans} {d : PyData} (h : EvAn c K te σ H a) (cl : Cls K (clsOf c a)) (na : NoAttr K (clsOf c a) f) (hf : ∀ H1 H2 x, AnsN c K H1 H2 x a → ∃ dx fs v, H2 x = some (.ins (clsOf c a) dx fs) ∧ fs.lookup f = some v ∧ Dp K H2 v d) : EvD K (tFld K te f) σ H d := fun H1 e Q q =>
  h H1 e _ fun x H2 hn k hx => by
    obtain ⟨dx, fs, v, h1, h2, h3⟩ := hf _ _ _ hx
    exact ⟨x, _, dx, fs, v, rfl, h1, cl, na, h2, q v H2 k h3⟩
end
end Dt

/-! What the laws compare answers with. -/
namespace Dt
open PySem L2 Evl PyProof.Rows

theorem eqvInt (a b : Int) : PyData.eqv (.int a) (.int b) = decide (a = b) := by
  unfold PyData.eqv
  rfl
theorem eqvTup3 (a b c x y z : Int) : PyData.eqv (smZ a b c) (smZ x y z) = (decide (a = x) && (decide (b = y) && decide (c = z))) := by
  unfold smZ
  rw [PyData.eqv, PyData.eqvAll, PyData.eqvAll, PyData.eqvAll, PyData.eqvAll, eqvInt, eqvInt, eqvInt, Bool.and_true]
theorem fullAny (n : Nat) (g : Nat → Nat → Nat) (r p u : Int) : ((fullsOf n g).map smD).any (fun z => PyData.eqv z (smZ r p u)) = fullB n g r p u := by
  rw [List.any_map, Bool.eq_iff_iff, List.any_eq_true]
  have one : ∀ s : Nat × Nat × Nat, ((fun z => PyData.eqv z (smZ r p u)) ∘ smD) s = true ↔ ((s.1 : Int) = r ∧ (s.2.1 : Int) = p ∧ (s.2.2 : Int) = u) := fun s => by
    show PyData.eqv (smZ (s.1 : Nat) (s.2.1 : Nat) (s.2.2 : Nat)) (smZ r p u) = true ↔ _
    rw [eqvTup3]
    simp only [Bool.and_eq_true, decide_eq_true_eq]
  unfold fullB
  rw [Bool.and_eq_true]
  constructor
  · rintro ⟨⟨a, b, c⟩, hs, e⟩
    obtain ⟨e1, e2, e3⟩ := (one _).mp e
    obtain ⟨hm, ht⟩ := List.mem_filter.mp hs
    have e1 : (a : Int) = r := e1
    have e2 : (b : Int) = p := e2
    have e3 : (c : Int) = u := e3
    subst e1 e2 e3
    exact ⟨smBOf (smAll_is hm), ht⟩
  · rintro ⟨h1, h2⟩
    obtain ⟨a, b, c, rfl, rfl, rfl, sm⟩ := smOfB h1
    exact ⟨(a, b, c), List.mem_filter.mpr ⟨smIn sm, h2⟩, (one _).mpr ⟨rfl, rfl, rfl⟩⟩
theorem dd3Is {a b c : Nat} (ha : Code a) (hb : Code b) (hc : Code c) : decide (((dd (w3 a b c).cps.toList).length : Int) = 3) = !decide (turn3 a b c = 0) := by
  rcases ha with rfl | rfl | rfl <;> rcases hb with rfl | rfl | rfl <;> rcases hc with rfl | rfl | rfl <;> decide +kernel
def firstD (n : Nat) (g : Nat → Nat → Nat) : PyData := match firstBrk n g with
  | some s => spD s
  | none => .none
def Q__law_first : List PyData → PyData → Prop := fun ds d => ∃ n g, Tri n g ∧ ds = [.list (triD n g)] ∧ d = firstD n g
/-! what an answer says of a triangle, by the law's own look -/
def isFB : Ans → Bool
  | .full .. => true
  | .breaks .. => true
  | _ => false
def SpDue (K : PySem.W.Frag) (c : Kls) : Sp := fun vs H Q _ => ∃ v x n g a H0, vs = [v, .ref x] ∧ Tri n g ∧ Dp K H v (.list (triD n g)) ∧ AnsN c K H0 H x a ∧ isFB a = true ∧ ∀ H', Ex H H' → Q (.bl (dueB n g a)) H'
theorem smZ_ok (r p u : Int) : okD 1 (smZ r p u) := okT fun d hd => by
  rcases List.mem_cons.mp hd with rfl | hd
  · exact okI _ 0
  · rcases List.mem_cons.mp hd with rfl | hd
    · exact okI _ 0
    · rw [List.mem_singleton] at hd
      subst hd
      exact okI _ 0
/-! cuts to the last sign -/
theorem sIxBut (l : List Nat) : HT.sIx (sOf l).length (sOf l).length (some (-1)) = l.length - 1 := by
  rw [sOfLen]
  show (if (-1 : Int) < 0 then ((-1 : Int) + (l.length : Int)).toNat else min (-1 : Int).toNat l.length) = l.length - 1
  rw [if_pos (by decide)]
  omega
theorem sIxBut0 (l : List Nat) : HT.sIx (sOf l).length 0 (some (-1)) = l.length - 1 := by
  rw [sOfLen]
  show (if (-1 : Int) < 0 then ((-1 : Int) + (l.length : Int)).toNat else min (-1 : Int).toNat l.length) = l.length - 1
  rw [if_pos (by decide)]
  omega
theorem cutSMidBut (l : List Nat) : cutS (sOf l) (some (1 : Int)) (some (-1)) = sOf ((l.take (l.length - 1)).drop 1) := by
  unfold cutS
  rw [sIxBut, show HT.sIx (sOf l).length 0 (some (1 : Int)) = min 1 (sOf l).length from HT.sIx_nat _ _ 1, sOfLen]
  show sOf ((l.drop (min 1 l.length)).take (l.length - 1 - min 1 l.length)) = sOf ((l.take (l.length - 1)).drop 1)
  congr 1
  cases l with
  | nil => rfl
  | cons c l =>
    rw [List.length_cons, Nat.min_eq_left (by omega), Nat.add_sub_cancel, List.drop_take]
theorem cutSLast (l : List Nat) : cutS (sOf l) (some (-1)) none = sOf (l.drop (l.length - 1)) := by
  unfold cutS
  rw [sIxBut0, HT.sIx_none, sOfLen]
  show sOf ((l.drop (l.length - 1)).take (l.length - (l.length - 1))) = sOf (l.drop (l.length - 1))
  rw [List.take_of_length_le (by rw [List.length_drop]; exact Nat.le_refl _)]
/-! the triangle with a side that keeps the rule -/
def rowL (n : Nat) (g : Nat → Nat → Nat) (r : Nat) : List Nat := (List.range (n - r)).map (g r)
theorem rowLLen (n : Nat) (g : Nat → Nat → Nat) (r : Nat) : (rowL n g r).length = n - r := by unfold rowL; rw [List.length_map, List.length_range]
theorem rowSL (n : Nat) (g : Nat → Nat → Nat) (r : Nat) : rowS n g r = sOf (rowL n g r) := rfl
theorem rowLOk {n : Nat} {g : Nat → Nat → Nat} (tri : Tri n g) (r : Nat) : ∀ c ∈ rowL n g r, Code c := fun c hc => by
  obtain ⟨p, _, rfl⟩ := List.mem_map.mp hc
  exact tri.ok r p
/-- a row further up -/
def kept1 (l : List Nat) : List Nat := if 1 < l.length then swp 98 99 (l.take 1) ++ (l.take (l.length - 1)).drop 1 ++ swp 97 99 (l.drop (l.length - 1)) else [99]
def kept0 (l : List Nat) : List Nat := [97] ++ (l.take (l.length - 1)).drop 1 ++ [98]
def keptRow (n : Nat) (g : Nat → Nat → Nat) (r : Nat) : List Nat := if r = 0 then kept0 (swp 99 97 (rowL n g 0)) else kept1 (rowL n g r)
def Q__law_kept : List PyData → List PyData → Prop := fun ds es => ∃ n g, Tri n g ∧ ds = [.list (triD n g)] ∧ es = (List.range n).map fun r => .str (sOf (keptRow n g r))
theorem swpLen (c d : Nat) (l : List Nat) : (swp c d l).length = l.length := by unfold swp; rw [List.length_map]
theorem swpOk {c d : Nat} (hd : Code d) {l : List Nat} (h : ∀ k ∈ l, Code k) : ∀ k ∈ swp c d l, Code k := fun k hk => by
  obtain ⟨j, hj, rfl⟩ := List.mem_map.mp hk
  split
  · exact hd
  · exact h j hj
theorem kept1Is {l : List Nat} (h0 : 0 < l.length) (h : ∀ c ∈ l, Code c) : (kept1 l).length = l.length ∧ ∀ c ∈ kept1 l, Code c := by
  unfold kept1
  split
  · refine ⟨?_, fun c hc => ?_⟩
    · rw [List.length_append, List.length_append, swpLen, swpLen, List.length_take, List.length_drop, List.length_take, List.length_drop]
      omega
    · rcases List.mem_append.mp hc with hc | hc
      · rcases List.mem_append.mp hc with hc | hc
        · exact swpOk (.inr (.inr rfl)) (fun k hk => h k (List.mem_of_mem_take hk)) c hc
        · exact h c (List.mem_of_mem_take (List.mem_of_mem_drop hc))
      · exact swpOk (.inr (.inr rfl)) (fun k hk => h k (List.mem_of_mem_drop hk)) c hc
  · refine ⟨by show 1 = l.length; omega, fun c hc => ?_⟩
    rw [List.mem_singleton] at hc
    exact .inr (.inr hc)
theorem kept0Is {l : List Nat} (h0 : 2 ≤ l.length) (h : ∀ c ∈ l, Code c) : (kept0 l).length = l.length ∧ ∀ c ∈ kept0 l, Code c := by
  unfold kept0
  refine ⟨?_, fun c hc => ?_⟩
  · rw [List.length_append, List.length_append, List.length_drop, List.length_take]
    show 1 + _ + 1 = _
    omega
  · rcases List.mem_append.mp hc with hc | hc
    · rcases List.mem_append.mp hc with hc | hc
      · rw [List.mem_singleton] at hc
        exact .inl hc
      · exact h c (List.mem_of_mem_take (List.mem_of_mem_drop hc))
    · rw [List.mem_singleton] at hc
      exact .inr (.inl hc)
theorem keptTri {n : Nat} {g : Nat → Nat → Nat} (tri : Tri n g) : ∃ g', Tri n g' ∧ ((List.range n).map fun r => PyData.str (sOf (keptRow n g r))) = triD n g' := by
  refine ⟨gOf' ((List.range n).map (keptRow n g)), ⟨tri.lo, tri.hi, gOfOk _⟩, ?_⟩
  rw [← gOfRow (n := n) (by rw [List.length_map, List.length_range]) (fun j l hj => ?_), List.map_map]
  · rfl
  · rw [List.getElem?_map] at hj
    have lo := tri.lo
    by_cases hjn : j < n
    · rw [List.getElem?_range hjn] at hj
      cases hj
      unfold keptRow
      split
      · rename_i h
        subst h
        have z := kept0Is (l := swp 99 97 (rowL n g 0)) (by rw [swpLen, rowLLen]; omega) (swpOk (.inl rfl) (rowLOk tri 0))
        rw [swpLen, rowLLen] at z
        exact z
      · have z := kept1Is (l := rowL n g j) (by rw [rowLLen]; omega) (rowLOk tri j)
        rw [rowLLen] at z
        exact z
    · rw [List.getElem?_eq_none (by rw [List.length_range]; omega)] at hj
      cases hj
/-! turned over from left to right; without its left side -/
def revG (n : Nat) (g : Nat → Nat → Nat) : Nat → Nat → Nat := fun r p => g r (n - r - 1 - p)
theorem revTri {n : Nat} {g : Nat → Nat → Nat} (tri : Tri n g) : Tri n (revG n g) := ⟨tri.lo, tri.hi, fun _ _ => tri.ok _ _⟩
theorem revRow (n : Nat) (g : Nat → Nat → Nat) (r : Nat) : revS (rowS n g r) = rowS n (revG n g) r := by
  show sOf ((List.range (n - r)).map (g r)).reverse = sOf ((List.range (n - r)).map (revG n g r))
  congr 1
  refine List.ext_getElem? fun i => ?_
  rw [List.getElem?_map]
  by_cases hi : i < n - r
  · rw [List.getElem?_reverse (by rw [List.length_map, List.length_range]; exact hi), List.length_map, List.length_range, List.getElem?_map, List.getElem?_range (by omega), List.getElem?_range hi]
    rfl
  · rw [List.getElem?_eq_none (by rw [List.length_reverse, List.length_map, List.length_range]; omega), List.getElem?_eq_none (by rw [List.length_range]; omega)]
    rfl
def lessG (g : Nat → Nat → Nat) : Nat → Nat → Nat := fun r p => g r (p + 1)
theorem lessTri {n : Nat} {g : Nat → Nat → Nat} (tri : Tri n g) (h : 2 < n) : Tri (n - 1) (lessG g) := ⟨by omega, by have := tri.hi; omega, fun _ _ => tri.ok _ _⟩
theorem lessRow (n : Nat) (g : Nat → Nat → Nat) (r : Nat) (h : r < n - 1) : cutS (rowS n g r) (some (1 : Int)) none = rowS (n - 1) (lessG g) r := by
  show cutS (sOf ((List.range (n - r)).map (g r))) (some ((1 : Nat) : Int)) none = sOf ((List.range (n - 1 - r)).map (lessG g r))
  rw [cutSFrom]
  congr 1
  obtain ⟨m, hm⟩ : ∃ m, n - r = m + 1 := ⟨n - r - 1, by omega⟩
  rw [hm, show n - 1 - r = m by omega, List.range_succ_eq_map, List.map_cons, List.map_map]
  rfl
theorem cutDBut (ds : List PyData) : cutD ds none (some (-1)) = ds.take (ds.length - 1) := by
  unfold cutD
  have e : HT.sIx ds.length ds.length (some (-1)) = ds.length - 1 := by
    show (if (-1 : Int) < 0 then ((-1 : Int) + (ds.length : Int)).toNat else min (-1 : Int).toNat ds.length) = ds.length - 1
    rw [if_pos (by decide)]
    omega
  rw [e, HT.sIx_none, Nat.sub_zero, List.drop_zero]
def gC2 (r p : Nat) : Nat := if r = 0 ∧ p = 1 then 98 else 97
theorem triC2 : Tri 2 gC2 := ⟨by decide, by decide, fun r p => by
  unfold gC2 Code
  split
  · exact .inr (.inl rfl)
  · exact .inl rfl⟩
theorem dC2 : [PyData.str "ab", .str "a"] = triD 2 gC2 := by
  have e : (("ab" : Str), ("a" : Str)) = (rowS 2 gC2 0, rowS 2 gC2 1) := by decide +kernel
  show [PyData.str "ab", .str "a"] = [.str (rowS 2 gC2 0), .str (rowS 2 gC2 1)]
  have e1 := congrArg Prod.fst e
  have e2 := congrArg Prod.snd e
  simp only at e1 e2
  rw [e1, e2]
theorem toldA : toldOf 2 gA = .full 0 0 1 := by
  unfold toldOf
  rw [show firstBrk 2 gA = none by decide +kernel, fA]
  rfl
theorem toldC2 : toldOf 2 gC2 = .breaks 1 0 := by
  unfold toldOf
  rw [show firstBrk 2 gC2 = some (1, 0) by decide +kernel]
  rfl
theorem toldFB {n : Nat} {g : Nat → Nat → Nat} : isFB (toldOf n g) = true := by
  unfold toldOf
  split
  · rfl
  · split <;> rfl
/-- what is told is so -/
theorem toldDue {n : Nat} {g : Nat → Nat → Nat} (tri : Tri n g) : dueB n g (toldOf n g) = true := by
  unfold toldOf
  cases h : firstBrk n g with
  | some s =>
    have hb : brk n g s.1 s.2 = true := List.find?_some (p := fun s : Nat × Nat => brk n g s.1 s.2) h
    have hm := List.mem_of_find?_eq_some h
    obtain ⟨r, hr, hm⟩ := List.mem_flatMap.mp hm
    obtain ⟨p, hp, rfl⟩ := List.mem_map.mp hm
    rw [List.mem_range] at hr hp
    show brkB n g (r : Nat) (p : Nat) = true
    unfold brkB
    rw [Bool.and_eq_true]
    exact ⟨decide_eq_true ⟨by omega, by omega, by omega⟩, hb⟩
  | none =>
    obtain ⟨⟨r, p, u⟩, l, e⟩ := fullEx tri h
    have hm : (r, p, u) ∈ fullsOf n g := by rw [e]; exact List.mem_cons_self
    obtain ⟨h1, h2⟩ := List.mem_filter.mp hm
    rw [e]
    show fullB n g (r : Nat) (p : Nat) (u : Nat) = true
    unfold fullB
    rw [Bool.and_eq_true]
    exact ⟨smBOf (smAll_is h1), h2⟩
end Dt

/-! Small rules for the laws. -/
namespace Dt
open PySem L2 Evl PyProof.Rows
theorem eqvBl (a b : Bool) : PyData.eqv (.bool a) (.bool b) = decide (a = b) := by
  revert a b
  decide +kernel
section
variable {c : Kls} {K : PySem.W.Frag} {σ : L2.St} {H H' : Hp} {ta tb te : TE} {t1 t2 : TE} {t : TT} {d : PyData}
theorem edEqB {a b : Bool} (ha : EvD K ta σ H (.bool a)) (hb : EvD K tb σ H (.bool b)) : EvD K (tOp (rEqD K) ta tb) σ H (.bool (decide (a = b))) := edB (ev_is (evEq ha hb rfl rfl) (by rw [eqvBl]))
theorem edNeB {a b : Bool} (ha : EvD K ta σ H (.bool a)) (hb : EvD K tb σ H (.bool b)) : EvD K (tOp (rNeD K) ta tb) σ H (.bool (!decide (a = b))) := edB (ev_is (evNe ha hb rfl rfl) (by rw [eqvBl]))
theorem enIf {b : Bool} {ds : List PyData} (h : EvT t σ H b) (h1 : b = true → EvN K ta σ H ds) (h2 : b = false → EvN K tb σ H ds) : EvN K (tIf t ta tb) σ H ds := fun H1 a Q q => h H1 a _ fun H2 k => by
  cases b with
  | true => exact h1 rfl H2 (a.trans k) _ fun p xs H3 hp e h3 hd => q p xs H3 (fresh_back k hp) (k.trans e) h3 hd
  | false => exact h2 rfl H2 (a.trans k) _ fun p xs H3 hp e h3 hd => q p xs H3 (fresh_back k hp) (k.trans e) h3 hd
theorem edOrL (h : EvD K t1 σ H d) : EvD K (fun σ H Q => t1 σ H Q ∨ t2 σ H Q) σ H d := fun H1 e Q q => .inl (h H1 e Q q)
theorem edOrR (h : EvD K t2 σ H d) : EvD K (fun σ H Q => t1 σ H Q ∨ t2 σ H Q) σ H d := fun H1 e Q q => .inr (h H1 e Q q)
theorem edDue {n : Nat} {g : Nat → Nat → Nat} {a : Ans} {i j : Nat} {v : V} {x : Addr} {H0 : Hp} {E : XK} (tri : Tri n g) (hi : σ[i]? = some (some v)) (hj : σ[j]? = some (some (.ref x))) (hv : Dp K H v (.list (triD n g))) (hx : AnsN c K H0 H x a) (hf : isFB a = true) :
    EvD K (tCall (SpDue K c) [] E (tCons (tVar i) (tCons (tVar j) tNil))) σ H (.bool (dueB n g a)) := edB fun H1 e Q q =>
  ⟨v, hi, .ref x, hj, v, x, n, g, a, H0, rfl, tri, dpUp e hv, hx.up e, hf, fun H2 e2 => q H2 e2⟩
end
def isFl : Ans → Bool
  | .full .. => true
  | _ => false
def numsOf : Ans → List Int
  | .full r p u => [r, p, u]
  | .breaks r p => [r, p]
  | _ => []
def rowOf : Ans → Int
  | .full r _ _ => r
  | .breaks r _ => r
  | _ => 0
def placeOf : Ans → Int
  | .full _ p _ => p
  | .breaks _ p => p
  | _ => 0
/-- a full one just where no spot breaks the rule -/
theorem toldFull {n : Nat} {g : Nat → Nat → Nat} (tri : Tri n g) : (isFl (toldOf n g) && !isNn (firstD n g)) = false := by
  unfold toldOf firstD
  cases h : firstBrk n g with
  | some s => rfl
  | none =>
    obtain ⟨s, l, e⟩ := fullEx tri h
    rw [e]
    rfl
theorem toldBreaks {n : Nat} {g : Nat → Nat → Nat} (tri : Tri n g) (hb : isFl (toldOf n g) = false) : firstD n g = .tuple [.int (rowOf (toldOf n g)), .int (placeOf (toldOf n g))] := by
  unfold toldOf firstD at *
  cases h : firstBrk n g with
  | some s => rfl
  | none =>
    obtain ⟨s, l, e⟩ := fullEx tri h
    rw [h, e] at hb
    cases hb
theorem pairOk (a b : Int) : okD 1 (.tuple [.int a, .int b]) := okT fun d hd => by
  rcases List.mem_cons.mp hd with rfl | hd
  · exact okI _ 0
  · rw [List.mem_singleton] at hd
    subst hd
    exact okI _ 0
end Dt

/-! Answers made by hand. -/
namespace Dt
open PySem L2 Evl PyProof.Rows
theorem kBB : kitB "bool" "bool" = some true := by decide +kernel
theorem turnSwap {a b c : Nat} (ha : Code a) (hb : Code b) (hc : Code c) : decide (turn3 a c b = 0) = decide (turn3 a b c = 0) := by
  rcases ha with rfl | rfl | rfl <;> rcases hb with rfl | rfl | rfl <;> rcases hc with rfl | rfl | rfl <;> decide +kernel
def P__law_says : List PyData → PyData → Prop := fun ds d => ∃ a b : Bool, ds = [.bool a, .bool b] ∧ d = .bool (decide (a = b))
def P__law_full : List PyData → PyData → Prop := fun ds d => ∃ (n : Nat) (g : Nat → Nat → Nat) (r p u : Int), Tri n g ∧ ds = [.list (triD n g), .int r, .int p, .int u] ∧ d = .bool (fullB n g r p u)
def P__law_brk : List PyData → PyData → Prop := fun ds d => ∃ (n : Nat) (g : Nat → Nat → Nat) (r p : Int), Tri n g ∧ ds = [.list (triD n g), .int r, .int p] ∧ d = .bool (brkB n g r p)
theorem AnsN.mut {c : Kls} {K : PySem.W.Frag} {H0 H : Hp} {x p : Addr} {a : Ans} {xs ys : List V} (h : AnsN c K H0 H x a) (hp : H p = some (.lst xs)) (h0 : H0 p ≠ none) (hn : ∀ l, (a = .ended l ∨ ∃ d, a = .out l d) → noLs l = true) : AnsN c K H0 (upd H p (.lst ys)) x a := by
  have nx : ∀ {o : HO}, H x = some o → (∀ zs, o ≠ .lst zs) → x ≠ p := fun e ne z => by
    rw [z, hp] at e
    cases e
    exact ne _ rfl
  cases a with
  | full r p u => obtain ⟨dx, h⟩ := h; exact ⟨dx, (upd_ne (nx h fun _ z => nomatch z)).trans h⟩
  | breaks r p => obtain ⟨dx, h⟩ := h; exact ⟨dx, (upd_ne (nx h fun _ z => nomatch z)).trans h⟩
  | ended l =>
    obtain ⟨dx, q, h, k1, zs, k2, k3⟩ := h
    have qp : q ≠ p := fun z => h0 (by rw [← z]; exact k1)
    exact ⟨dx, q, (upd_ne (nx h fun _ z => nomatch z)).trans h, k1, zs, (upd_ne qp).trans k2, dpsTups (tupsMut hp) k3 (hn l (.inl rfl))⟩
  | out l d =>
    obtain ⟨dx, q, h, k1, zs, k2, k3⟩ := h
    have qp : q ≠ p := fun z => h0 (by rw [← z]; exact k1)
    exact ⟨dx, q, (upd_ne (nx h fun _ z => nomatch z)).trans h, k1, zs, (upd_ne qp).trans k2, dpsTups (tupsMut hp) k3 (hn l (.inr ⟨d, rfl⟩))⟩
section
variable {c : Kls} {K : PySem.W.Frag} {σ : L2.St} {H H' : Hp} {t1 t2 te : TE} {ta : TA} {D : Ends} {tz : TS}
theorem qLst2 {i : Nat} {a1 a2 : Ans} (h1 : EvAn c K t1 σ H a1) (h2 : EvAn c K t2 σ H a2) (k : ∀ w x1 x2 H1, H w = none → Ex H H1 → H1 w = some (.lst [.ref x1, .ref x2]) → AnsN c K H H1 x1 a1 → AnsN c K H H1 x2 a2 → tz D (σ.set i (some (.ref w))) H1) :
    tSeq (tAsg (tLst (tCons t1 (tCons t2 tNil))) (gName i)) tz D σ H := h1 H (Ex.refl H) _ fun x1 H1 n1 e1 k1 => h2 H1 e1 _ fun x2 H2 n2 e2 k2 => ⟨by show 2 ≤ sizeLine; decide, fun w hw =>
  k w x1 x2 _ (fresh_back (e1.trans e2) hw) ((e1.trans e2).trans (Ex.new hw)) upd_same (k1.up (e2.trans (Ex.new hw))) ((k2.back e1).up (Ex.new hw))⟩
theorem edFullShowsA {n : Nat} {g : Nat → Nat → Nat} {r p u : Int} {E : XK} (tri : Tri n g) (h : EvAn c K te σ H (.full r p u)) (ha : EvAD K ta σ H [.list (triD n g)]) : EvD K (tMeth c.full "shows" (SpFull K c) [] E te ta) σ H (.bool (fullB n g r p u)) := edB fun H1 e Q q =>
  h H1 e _ fun x H2 hn b hx => by
    obtain ⟨dx, hx⟩ := hx
    exact ⟨x, dx, _, rfl, hx, noShows1, ha H2 (e.trans b) _ fun vs H3 k hd => by
      obtain ⟨v, rfl, h1⟩ := dps1 hd
      exact ⟨x, v, dx, n, g, r, p, u, rfl, tri, h1, k _ _ hx, fun H4 l => q H4 ((b.trans k).trans l)⟩⟩
end
def gD3 (r p : Nat) : Nat := if r = 0 then (if p = 0 then 97 else if p = 1 then 98 else 99) else if r = 1 then (if p = 0 then 99 else 97) else 98
theorem triD3 : Tri 3 gD3 := ⟨by decide, by decide, fun r p => by
  unfold gD3 Code
  repeat' split
  all_goals simp⟩
theorem dD3 : [PyData.str "abc", .str "ca", .str "b"] = triD 3 gD3 := by
  have e : (("abc" : Str), ("ca" : Str), ("b" : Str)) = (rowS 3 gD3 0, rowS 3 gD3 1, rowS 3 gD3 2) := by decide +kernel
  show [PyData.str "abc", .str "ca", .str "b"] = [.str (rowS 3 gD3 0), .str (rowS 3 gD3 1), .str (rowS 3 gD3 2)]
  have e1 := congrArg Prod.fst e
  have e2 := congrArg (fun z => z.2.1) e
  have e3 := congrArg (fun z => z.2.2) e
  simp only at e1 e2 e3
  rw [e1, e2, e3]
theorem bD3 : fullB 3 gD3 0 0 0 = true := by decide +kernel
theorem bA0 : fullB 2 gA 0 0 0 = false := by decide +kernel
theorem intsNoL (l : List Int) : noLs (l.map .int) = true := noLs_map fun _ _ => by rw [noL]
theorem intsOkZ (l : List Int) : okD 1 (.list (l.map .int)) := okL (okM fun i _ => okI i 0)
theorem smZ_noL (r p u : Int) : noL (smZ r p u) = true := by
  unfold smZ
  rw [noL, noLs, noL, noLs, noL, noLs, noL, noLs]
  rfl
end Dt
namespace Dt
open PySem L2 Evl PyProof.Rows
theorem qAppE {K : PySem.W.Frag} {σ : L2.St} {H : Hp} {te : TE} {D : Ends} {tz : TS} {i : Nat} {p : Addr} {xs : List V} {d : PyData} (hx : H p = some (.lst xs)) (hi : σ[i]? = some (some (.ref p))) (h : EvD K te σ H d) (hz : xs.length < 100000) (k : ∀ v H1, Ex H H1 → Dp K H1 v d → tz D σ (upd H1 p (.lst (xs ++ [v])))) :
    tSeq (tDrop (tBM K "list" rAppend (tVar i) (tCons te tNil))) tz D σ H :=
  ⟨.ref p, hi, .inl ⟨rfl, xs, sq_of hx⟩, h H (Ex.refl H) _ fun v H1 e hv => ⟨p, xs, v, rfl, rfl, e _ _ hx, sz_lt hz, k v H1 e hv⟩⟩
end Dt

/-! Rules for the walks' laws: sorted, slices with a start and a step. -/
namespace Dt
open PySem L2 Evl PyProof.Rows
theorem valsPerm {out vs : List Value} (p : out.Perm vs) : ∀ {xs : List V}, Vals xs vs → ∃ ys, Vals ys out ∧ ys.Perm xs := by
  induction p with
  | nil =>
    intro xs h
    cases h
    exact ⟨[], .nil, .refl _⟩
  | cons x _ ih =>
    intro xs h
    cases h with
    | cons r t =>
      obtain ⟨ys, h1, h2⟩ := ih t
      exact ⟨_ :: ys, .cons r h1, h2.cons _⟩
  | swap x y l =>
    intro xs h
    cases h with
    | cons r t => cases t with
      | cons r2 t => exact ⟨_ :: _ :: _, .cons r2 (.cons r t), .swap _ _ _⟩
  | trans _ _ ih1 ih2 =>
    intro xs h
    obtain ⟨ys, h1, h2⟩ := ih2 h
    obtain ⟨zs, h3, h4⟩ := ih1 h1
    exact ⟨zs, h3, h4.trans h2⟩
theorem valsIn {vs : List Value} : ∀ {xs : List V}, Vals xs vs → ∀ v ∈ vs, ∃ x ∈ xs, L2.RelV x v
  | _, .nil, v, hv => nomatch hv
  | _, .cons r t, v, hv => by
    rcases List.mem_cons.mp hv with rfl | hv
    · exact ⟨_, List.mem_cons_self, r⟩
    · obtain ⟨y, h1, h2⟩ := valsIn t v hv
      exact ⟨y, List.mem_cons_of_mem _ h1, h2⟩
def rSortP (K : PySem.W.Frag) : List V → Hp → VK → Prop := fun vs H Q => ∃ a xs, vs = [.ref a] ∧ SqL K H a xs ∧ (∀ x ∈ xs, ∃ t i j, x = .ref t ∧ SqT K H t [.int i, .int j]) ∧ ∀ ys p, ys.Perm xs → H p = none → Q (.ref p) (upd H p (.lst ys))
theorem cr_sortP {X : Cx} : CallR X (.builtin "sorted") (rSortP X.K) := by
  classical
  intro pins s σ H xs us Q I r h
  obtain ⟨a, ws, rfl, hs, hp, q⟩ := h
  obtain ⟨its, hv, hl, hz⟩ := I.list hs
  have hlen := hv.length
  cases r with
  | cons r1 r2 =>
    cases r2
    cases r1
    have pr : ∀ v ∈ its, ∃ z : Int × Int, Srt.IsPair s.heap v z.1 z.2 := fun v hm => by
      obtain ⟨x, hx, rv⟩ := valsIn hv v hm
      obtain ⟨t, i, j, rfl, ht⟩ := hp x hx
      cases rv
      obtain ⟨jts, h1, ⟨o, h2, h3, n, h4⟩, _⟩ := I.tuple ht
      cases h1 with
      | cons e1 e2 => cases e2 with
        | cons e2 e3 =>
          cases e3
          obtain ⟨t1, rfl⟩ := e1
          obtain ⟨t2, rfl⟩ := e2
          exact ⟨(i, j), t, o, t1, t2, n, rfl, h2, h3, h4⟩
    let k : Value → Int × Int := fun v => if h : ∃ z : Int × Int, Srt.IsPair s.heap v z.1 z.2 then h.choose else (0, 0)
    have hl2 := hl.isList
    refine SrtO.sorted_pairsO (k := k) hl2 (by omega) (fun v hm => by
      have e : k v = (pr v hm).choose := dif_pos (pr v hm)
      rw [e]
      exact (pr v hm).choose_spec) fun h' d out _ st keep hd ho => ?_
    obtain ⟨m, ho⟩ := ho
    obtain ⟨ys, h1, h2⟩ := valsPerm st.perm hv
    have hly := h1.length
    have hpl := h2.length_eq
    exact ⟨.ref d, _, I.laid (t' := s.toks) (o := .lst ys) keep hd ⟨by omega, _, m, h1, ho⟩, rfl, q ys d h2 (I.hok.fresh hd)⟩
def rSortS (K : PySem.W.Frag) : List V → Hp → VK → Prop := rSortedS K
theorem cr_sortS {X : Cx} : CallR X (.builtin "sorted") (rSortS X.K) := cr_sortedS
end Dt
namespace Dt
open PySem L2 Evl PyProof.Rows
theorem dpsPerm {K : PySem.W.Frag} {H : Hp} {α : Type} {f : α → PyData} {ys xs : List V} (p : ys.Perm xs) : ∀ {l : List α}, DpAll K H xs (l.map f) → ∃ m : List α, DpAll K H ys (m.map f) ∧ m.Perm l := by
  induction p with
  | nil =>
    intro l h
    cases l with
    | nil => exact ⟨[], .nil, .refl _⟩
    | cons a l => cases h
  | cons x _ ih =>
    intro l h
    cases l with
    | nil => cases h
    | cons a l => cases h with
      | cons r t =>
        obtain ⟨m, h1, h2⟩ := ih t
        exact ⟨a :: m, .cons r h1, h2.cons _⟩
  | swap x y ys =>
    intro l h
    cases l with
    | nil => cases h
    | cons a l => cases h with
      | cons r t => cases l with
        | nil => cases t
        | cons b l => cases t with
          | cons r2 t => exact ⟨b :: a :: l, .cons r2 (.cons r t), .swap _ _ _⟩
  | trans _ _ ih1 ih2 =>
    intro l h
    obtain ⟨m, h1, h2⟩ := ih2 h
    obtain ⟨k, h3, h4⟩ := ih1 h1
    exact ⟨k, h3, h4.trans h2⟩
theorem dpsMem {K : PySem.W.Frag} {H : Hp} : ∀ {xs : List V} {ds : List PyData}, DpAll K H xs ds → ∀ x ∈ xs, ∃ d ∈ ds, Dp K H x d
  | _, _, .nil, x, h => nomatch h
  | _, _, .cons r t, x, h => by
    rcases List.mem_cons.mp h with rfl | h
    · exact ⟨_, List.mem_cons_self, r⟩
    · obtain ⟨d, h1, h2⟩ := dpsMem t x h
      exact ⟨d, List.mem_cons_of_mem _ h1, h2⟩
theorem eqvPair (a b x y : Int) : PyData.eqv (spZ (a, b)) (spZ (x, y)) = (decide (a = x) && decide (b = y)) := by
  rw [spZ, spZ, PyData.eqv]
  simp [PyData.eqvAll, eqvInt]
theorem eqvPairs : ∀ la lb : List (Int × Int), PyData.eqvAll (la.map spZ) (lb.map spZ) = decide (la = lb)
  | [], [] => by simp [PyData.eqvAll]
  | [], _ :: _ => by simp [PyData.eqvAll]
  | _ :: _, [] => by simp [PyData.eqvAll]
  | (a, b) :: la, (x, y) :: lb => by
    rw [List.map_cons, List.map_cons, PyData.eqvAll, eqvPair, eqvPairs la lb]
    simp [Bool.decide_and]
theorem spZ_ok (s : Int × Int) : okD 1 (spZ s) := okT fun d hd => by
  simp at hd
  rcases hd with rfl | rfl <;> exact okI _ 0
theorem spZs_shaped (l : List (Int × Int)) : SeqAt.shaped (.list (l.map spZ)) = true := shp (okL (okM fun s _ => spZ_ok s))
section
variable {K : PySem.W.Frag} {σ : L2.St} {H H' : Hp} {ta tb te : TE}
theorem evSortP {l : List (Int × Int)} (h : EvD K ta σ H (.list (l.map spZ))) : ∀ H1, Ex H H1 → ∀ Q : VK, (∀ p H2 (m : List (Int × Int)), Ex H1 H2 → m.Perm l → Dp K H2 (.ref p) (.list (m.map spZ)) → Q (.ref p) H2) → tCB (rSortP K) (tCons ta tNil) σ H1 Q := fun H1 e Q q =>
  h H1 e _ fun v H2 b hv => by
    obtain ⟨a, xs, rfl, hs, hd⟩ := dpLst hv
    refine ⟨a, xs, rfl, hs, fun x hx => ?_, fun ys p pm hp => ?_⟩
    · obtain ⟨d, h1, h2⟩ := dpsMem hd x hx
      obtain ⟨s, _, rfl⟩ := List.mem_map.mp h1
      obtain ⟨t, zs, rfl, h3, h4⟩ := dpTup h2
      obtain ⟨v1, v2, rfl, h5, h6⟩ := dps2 h4
      rw [dpInt h5, dpInt h6] at h3
      exact ⟨t, _, _, rfl, h3⟩
    · obtain ⟨m, h1, h2⟩ := dpsPerm pm hd
      exact q p _ m (b.trans (Ex.new hp)) h2 (dpOfL upd_same (dpsUp (Ex.new hp) h1))
theorem edSortNe {la lb : List (Int × Int)} (ha : EvD K ta σ H (.list (la.map spZ))) (hb : EvD K tb σ H (.list (lb.map spZ))) (ne : ¬ la.Perm lb) : EvD K (tOp (rEqD K) (tCB (rSortP K) (tCons ta tNil)) (tCB (rSortP K) (tCons tb tNil))) σ H (.bool false) := edB fun H1 e Q q =>
  evSortP ha H1 e _ fun p H2 m e2 pm hm => evSortP hb H2 (e.trans e2) _ fun p' H3 m' e3 pm' hm' => ⟨_, _, dpUp e3 hm, hm', spZs_shaped _, spZs_shaped _, by
    have h : PyData.eqv (.list (m.map spZ)) (.list (m'.map spZ)) = false := by
      rw [PyData.eqv, eqvPairs]
      exact decide_eq_false fun z => ne (pm.symm.trans (z ▸ pm'))
    rw [h]
    exact q H3 (e2.trans e3)⟩
/-- sorted letters: an a and a b -/
theorem enSortAB {xs : List Str} (h : EvD K ta σ H (.list (xs.map .str))) (hx : xs = [("a" : Str), ("b" : Str)] ∨ xs = [("b" : Str), ("a" : Str)]) : EvN K (tCB (rSortS K) (tCons ta tNil)) σ H [.str "a", .str "b"] := fun H1 e Q q =>
  h H1 e _ fun v H2 b hv => by
    obtain ⟨a, vs, rfl, hs, hd⟩ := dpLst hv
    have ev : vs = xs.map V.str := fvAll (by rw [List.map_map, List.map_map]; rfl) hd
    subst ev
    refine ⟨a, xs, rfl, hs, by rcases hx with rfl | rfl <;> decide, fun ys p pm so hp => ?_⟩
    have ey : ys = [("a" : Str), ("b" : Str)] := by
      have pm2 : ys.Perm [("a" : Str), ("b" : Str)] := by
        rcases hx with rfl | rfl
        · exact pm
        · exact pm.trans (.swap _ _ _)
      match ys, pm2.length_eq with
      | [y, z], _ =>
        have hy : y = "a" ∨ y = "b" := by
          have := pm2.subset List.mem_cons_self
          simpa using this
        have hz : z = "a" ∨ z = "b" := by
          have := pm2.subset (List.mem_cons_of_mem _ List.mem_cons_self)
          simpa using this
        have ha : (Str.ofString "a") ∈ [y, z] := pm2.symm.subset List.mem_cons_self
        have hb : (Str.ofString "b") ∈ [y, z] := pm2.symm.subset (List.mem_cons_of_mem _ List.mem_cons_self)
        rcases hy with rfl | rfl <;> rcases hz with rfl | rfl
        · exact absurd hb (by decide +kernel)
        · rfl
        · exact absurd so (by decide +kernel)
        · exact absurd ha (by decide +kernel)
    subst ey
    exact q p _ _ (fresh_back b hp) (b.trans (Ex.new hp)) upd_same (.cons (.str _) (.cons (.str _) .nil))
end
end Dt
namespace Dt
open PySem L2 Evl PyProof.Rows
/-! xs[a::k] -/
def ixs2 (n : Nat) (a k : Int) : List Nat := sliceRange (sliceBounds (some a) none (some k) n).1 (sliceBounds (some a) none (some k) n).2.1 (sliceBounds (some a) none (some k) n).2.2
def tStep2 (K : PySem.W.Frag) (te tl ts : TE) : TE := fun σ H Q => te σ H fun x H1 => tPart tl σ H1 fun b H2 => tPart ts σ H2 fun o H3 => ∃ a xs i k, x = .ref a ∧ b = some i ∧ o = some k ∧ k ≠ 0 ∧ SqL K H3 a xs ∧ ∀ p, H3 p = none → Q (.ref p) (upd H3 p (.lst ((ixs2 xs.length i k).filterMap (xs[·]?))))
theorem pe_stepL2 {X : Cx} {e lo st : Expr} {te tl ts : TE} {p3 pos : Pos} (he : PE X e te) (hl : PE X lo tl) (hs : PE X st ts)
    (hop : ∀ o i, subscripted (.Slice (some lo) none (some st) p3) false o i = operate [o, i] (getItem o i) := by intro _ _; rfl) : PE X (.Subscript e (.Slice (some lo) none (some st) p3) pos) (tStep2 X.K te tl ts) := by
  refine ⟨fun pins s σ H Q I h => Subscript_ (thn (he.run pins s σ H _ I h) fun v s1 ⟨x, H1, I1, r1, q1⟩ => ?_)⟩
  refine wpAny_Slice (thn ((po_some hl).run pins s1 σ H1 _ I1 q1) fun vl s2 w2 => ?_)
  obtain ⟨b, H2, I2, pl, q2⟩ := w2
  refine thn (po_none.run pins s2 σ H2 (fun o H3 => o = none ∧ H3 = H2) I2 ⟨rfl, rfl⟩) fun vu s3 w3 => ?_
  obtain ⟨u, H3, I3, pu, eu, e3⟩ := w3
  subst eu e3
  refine thn ((po_some hs).run pins s3 σ H3 _ I3 q2) fun vs s4 w4 => ?_
  obtain ⟨o, H4, I4, ps, a, xs, i, k, rfl, rfl, rfl, hk, hsq, q⟩ := w4
  cases r1
  have I5 : Inv X pins σ H4 { s4 with heap := s4.heap.push { cls := .type "slice", data := .fields #[vl, vu, vs] } } := I4.kept (t' := s4.toks) fun b ob z => Heap.get?_push_of_some _ z
  obtain ⟨its, r, ht, hz⟩ := I5.list hsq
  have hrl := r.length
  refine tail_any (ops := [.ref a, .ref s4.heap.objs.size]) ht.isList.typeIs PySem.slot_list_getitem.lookup ?_ (hop _ _)
  refine wpAny_getItem_list_slice ht.isList (Heap.IsSliceOf.new _ vl vu vs) pl pu ps (fun z => hk (Option.some.inj z)) ?_ (by rw [List.size_toArray]; omega)
  have ep : slicePick its.toArray (some i) none (some k) = ((ixs2 xs.length i k).filterMap (its[·]?)).toArray := by
    unfold slicePick ixs2
    rw [List.size_toArray, ← r.length]
    congr 2
    funext i
    rw [List.getElem?_toArray]
  have hsz := slicePick_size_le its.toArray (some i) none (some k)
  rw [ep] at hsz ⊢
  have hv := valsPick r (ixs2 xs.length i k)
  refine ⟨.ref _, _, I5.laid (t' := s4.toks) (o := .lst ((ixs2 xs.length i k).filterMap (xs[·]?))) (fun b ob z => Heap.get?_push_of_some _ z) (Nat.le_refl _) ⟨?_, _, 0, hv, Heap.get?_push_size _ rfl⟩, rfl, q _ (I5.hok.fresh (Nat.le_refl _))⟩
  rw [hv.length]
  rw [List.size_toArray, List.size_toArray] at hsz
  omega
theorem enStep2 {K : PySem.W.Frag} {σ : L2.St} {H : Hp} {te ta tb : TE} {ds : List PyData} {i k : Int} (h : EvD K te σ H (.list ds)) (hi : EvD K ta σ H (.int i)) (hs : EvD K tb σ H (.int k)) (hk : k ≠ 0) : EvN K (tStep2 K te ta tb) σ H ((ixs2 ds.length i k).filterMap (ds[·]?)) := fun H1 a Q q =>
  h H1 a _ fun v H2 b hv => evI hi H2 (a.trans b) _ fun H3 c => ⟨i, rfl, evI hs H3 ((a.trans b).trans c) _ fun H4 d => ⟨k, rfl, by
    obtain ⟨p, xs, rfl, hsq, hr⟩ := dpLst hv
    have bcd := (b.trans c).trans d
    refine ⟨p, xs, i, k, rfl, rfl, rfl, hk, ex_l (c.trans d) hsq, fun l hl => q l _ _ (fresh_back bcd hl) (bcd.trans (Ex.new hl)) upd_same ?_⟩
    rw [dpsLen hr]
    exact dpsPick (dpsUp ((c.trans d).trans (Ex.new hl)) hr) _⟩⟩
end Dt
namespace Dt
open PySem L2 Evl PyProof.Rows
theorem pe_fldK {X : Cx} {K : PySem.W.Frag} {e : Expr} {f : Str} {pos : Pos} {ta : TE} (he : PE X e ta) (hK : X.K = K) (hb : attributeBase e f X.env (eval e X.env) = eval e X.env) : PE X (e.Attribute f pos) (tFld K ta f) := by
  subst hK
  exact pe_fld he hb
end Dt

/-! The walks: steps, ways, answers. -/
namespace Dt
open PySem L2 Evl PyProof.Rows
/-- edge k as a step -/
def stE (s : Sm) (k : Nat) : (Nat × Nat) × Nat × Nat := (cor s k, cor s (nx3 k))
theorem smU {n : Nat} {s : Sm} (h : isSm n s) : s.2.2 = 1 ∨ s.2.2 = 0 := by
  rcases h with ⟨h, _⟩ | ⟨h, _⟩
  · exact .inl h
  · exact .inr h
theorem stE_inj {n m : Nat} {s t : Sm} {j k : Nat} (hs : isSm n s) (ht : isSm m t) (hj : j < 3) (hk : k < 3) (e : stE s j = stE t k) : s = t ∧ j = k := by
  obtain ⟨r, p, u⟩ := s
  obtain ⟨r', p', u'⟩ := t
  have hu := smU hs
  have hu' := smU ht
  simp only at hu hu'
  rcases hu with rfl | rfl <;> rcases hu' with rfl | rfl <;> rcases k3 hj with rfl | rfl | rfl <;> rcases k3 hk with rfl | rfl | rfl <;> simp [stE, cor, nx3] at e ⊢ <;> omega
/-- spot i of the side, the first one again behind the last -/
def spI (n i : Nat) : Nat × Nat := if i < n - 1 then (0, i) else if i < (n - 1) + (n - 1) then (i - (n - 1), (n - 1) + (n - 1) - i) else ((n - 1) + (n - 1) + (n - 1) - i, 0)
theorem spotsAt {n i : Nat} (h : i < (n - 1) + (n - 1) + (n - 1)) : (spots n)[i]? = some (spI n i) := by
  unfold spots spI
  by_cases h1 : i < n - 1
  · rw [if_pos h1, List.append_assoc, List.getElem?_append_left (by rw [List.length_map, List.length_range]; exact h1), List.getElem?_map, List.getElem?_range h1]
    rfl
  · rw [if_neg h1]
    by_cases h2 : i < (n - 1) + (n - 1)
    · rw [if_pos h2, List.getElem?_append_left (by rw [List.length_append, List.length_map, List.length_map, List.length_range]; exact h2), List.getElem?_append_right (by rw [List.length_map, List.length_range]; omega), List.length_map, List.length_range, List.getElem?_map, List.getElem?_range (by omega)]
      show some (i - (n - 1), n - 1 - (i - (n - 1))) = _
      congr 2
      omega
    · rw [if_neg h2, List.getElem?_append_right (by rw [List.length_append, List.length_map, List.length_map, List.length_range]; omega), List.length_append, List.length_map, List.length_map, List.length_range, List.getElem?_map, List.getElem?_range (by omega)]
      show some (n - 1 - (i - (n - 1 + (n - 1))), 0) = _
      congr 2
      omega
theorem rotAt {n i : Nat} (h : i < (n - 1) + (n - 1) + (n - 1)) : (rotP (spots n))[i]? = some (spI n (i + 1)) := by
  unfold rotP
  by_cases h1 : i + 1 < (n - 1) + (n - 1) + (n - 1)
  · rw [List.getElem?_append_left (by rw [List.length_drop, spotsLen]; omega), List.getElem?_drop, Nat.add_comm 1 i, spotsAt h1]
  · rw [List.getElem?_append_right (by rw [List.length_drop, spotsLen]; omega), List.length_drop, spotsLen, show i - ((n - 1) + (n - 1) + (n - 1) - 1) = 0 by omega, List.getElem?_take_of_lt (by omega), spotsAt (by omega)]
    unfold spI
    rw [if_pos (show 0 < n - 1 by omega), if_neg (show ¬i + 1 < n - 1 by omega), if_neg (show ¬i + 1 < n - 1 + (n - 1) by omega)]
    congr 2
    omega
theorem stepsSp {n i : Nat} (h : i < (n - 1) + (n - 1) + (n - 1)) : (steps n)[i]? = some (spI n i, spI n (i + 1)) := List.getElem?_zip_eq_some.mpr ⟨spotsAt h, rotAt h⟩
theorem spA {n i : Nat} (h0 : 2 ≤ n) (h : i ≤ n - 1) : spI n i = (0, i) := by
  unfold spI
  by_cases h1 : i < n - 1
  · rw [if_pos h1]
  · rw [if_neg h1, if_pos (by omega)]
    congr 1 <;> omega
theorem spB {n i : Nat} (h0 : 2 ≤ n) (h : n - 1 ≤ i) (h2 : i ≤ (n - 1) + (n - 1)) : spI n i = (i - (n - 1), (n - 1) + (n - 1) - i) := by
  unfold spI
  rw [if_neg (by omega)]
  by_cases h1 : i < (n - 1) + (n - 1)
  · rw [if_pos h1]
  · rw [if_neg h1]
    congr 1 <;> omega
theorem spC {n i : Nat} (h0 : 2 ≤ n) (h : (n - 1) + (n - 1) ≤ i) : spI n i = ((n - 1) + (n - 1) + (n - 1) - i, 0) := by
  unfold spI
  rw [if_neg (by omega), if_neg (by omega)]
theorem stepsAt {n i : Nat} (h : i < (n - 1) + (n - 1) + (n - 1)) : (steps n)[i]? = some (stE (sideE n i).1 (sideE n i).2) := by
  have h0 : 2 ≤ n := by omega
  rw [stepsSp h]
  unfold sideE
  by_cases h1 : i < n - 1
  · rw [if_pos h1, spA h0 (by omega), spA h0 (by omega)]
    rfl
  · rw [if_neg h1]
    by_cases h2 : i < (n - 1) + (n - 1)
    · rw [if_pos h2, spB h0 (by omega) (by omega), spB h0 (by omega) (by omega)]
      simp [stE, cor, nx3]
      omega
    · rw [if_neg h2, spC h0 (by omega), spC h0 (by omega)]
      simp [stE, cor, nx3]
      omega
theorem sideOk {n i : Nat} (h2 : 2 ≤ n) (h : i < (n - 1) + (n - 1) + (n - 1)) : isSm n (sideE n i).1 ∧ (sideE n i).2 < 3 ∧ nb n (sideE n i).1 (sideE n i).2 = none ∧ sideI n (sideE n i).1 (sideE n i).2 = i :=
  let ⟨a, b, c, d, _⟩ := sideE_ok h2 h fun _ _ => 0
  ⟨a, b, c, d⟩
theorem stepsIx {n : Nat} {x : Sm} {k : Nat} (hx : isSm n x) (hk : k < 3) (e : nb n x k = none) : sideI n x k < (n - 1) + (n - 1) + (n - 1) ∧ (steps n)[sideI n x k]? = some (stE x k) := by
  obtain ⟨h1, h2⟩ := sideI_ok hk hx e
  refine ⟨h1, ?_⟩
  rw [stepsAt h1, h2]
theorem stepsOut {n : Nat} {x u : Sm} {k : Nat} (h2 : 2 ≤ n) (hx : isSm n x) (hk : k < 3) (e : nb n x k = some u) : stE x k ∉ steps n := fun hm => by
  obtain ⟨i, hi⟩ := List.mem_iff_getElem?.mp hm
  have hl : i < (n - 1) + (n - 1) + (n - 1) := by
    have := (List.getElem?_eq_some_iff.mp hi).1
    rwa [stepsLen] at this
  rw [stepsAt hl] at hi
  obtain ⟨a, b, c, _⟩ := sideOk h2 hl
  obtain ⟨rfl, rfl⟩ := stE_inj a hx b hk (Option.some.inj hi)
  rw [c] at e
  cases e
theorem stepsNodup {n : Nat} (h2 : 2 ≤ n) : (steps n).Nodup := by
  refine List.pairwise_iff_getElem.mpr fun i j hi hj hij e => ?_
  have e : (steps n)[i]? = (steps n)[j]? := by
    rw [List.getElem?_eq_getElem hi, List.getElem?_eq_getElem hj, e]
  rw [stepsLen] at hi hj
  rw [stepsAt hi, stepsAt hj] at e
  obtain ⟨a, b, _, c⟩ := sideOk h2 hi
  obtain ⟨a', b', _, c'⟩ := sideOk h2 hj
  obtain ⟨e1, e2⟩ := stE_inj a a' b b' (Option.some.inj e)
  rw [e1, e2, c'] at c
  omega
theorem drEk {n : Nat} {g : Nat → Nat → Nat} (s : Sm) (k : Nat) : drB g (stE s k) = !decide (ek g s k = 0) := by
  unfold drB stC stE ek eg at2 isAB isBA
  simp only
  generalize g (cor s k).1 (cor s k).2 = x
  generalize g (cor s (nx3 k)).1 (cor s (nx3 k)).2 = y
  by_cases h1 : x = 97 ∧ y = 98
  · rw [if_pos h1]
    simp [h1]
  · rw [if_neg h1]
    by_cases h2 : x = 98 ∧ y = 97
    · rw [if_pos h2]
      simp [h2]
    · rw [if_neg h2]
      simp
      refine ⟨fun a b => h1 ⟨a, b⟩, fun a b => h2 ⟨a, b⟩⟩
/-- the door that is not the one come in by -/
def wayOf (g : Nat → Nat → Nat) (s : Sm) (c : Option Nat) : Option Nat := [0, 1, 2].find? fun j => !decide (some j = c) && drB g (stE s j)
def Came (g : Nat → Nat → Nat) (t : Int) (s : Sm) (c : Option Nat) : Prop := (c = none ∧ ed g t s = none) ∨ ∃ k, k < 3 ∧ c = some k ∧ ek g s k = t
theorem wayIs {g : Nat → Nat → Nat} {t : Int} {s : Sm} {c : Option Nat} (ht : Sg t) (h : Came g t s c) : wayOf g s c = ed g (-t) s := by
  have one : ∀ j, j < 3 → (!decide (some j = c) && drB g (stE s j)) = decide (ek g s j = -t) := fun j hj => by
    rw [drEk (n := 0)]
    have is := egIs (at2 g (cor s j)) (at2 g (cor s (nx3 j)))
    have is : ek g s j = 1 ∨ ek g s j = -1 ∨ ek g s j = 0 := is
    rcases h with ⟨rfl, h⟩ | ⟨k, hk, rfl, h⟩
    · have ne := edNone h j hj
      rcases ht with rfl | rfl <;> rcases is with e | e | e <;> rw [e] at ne ⊢ <;> simp at ne ⊢
    · by_cases hjk : j = k
      · subst hjk
        rcases ht with rfl | rfl <;> simp [h]
      · have ne : ek g s j ≠ t := fun z => hjk (ekOne g s ht hj hk z h)
        rcases ht with rfl | rfl <;> rcases is with e | e | e <;> rw [e] at ne ⊢ <;> simp [hjk] at ne ⊢
  unfold wayOf ed
  rw [List.find?_cons, List.find?_cons, List.find?_cons, one 0 (by omega), one 1 (by omega), one 2 (by omega)]
  by_cases h0 : ek g s 0 = -t
  · simp [h0]
  · by_cases h1 : ek g s 1 = -t
    · simp [h0, h1]
    · by_cases h2 : ek g s 2 = -t <;> simp [h0, h1, h2]
theorem pathStep {α : Type} {f : α → Option α} : ∀ {pre post : List α} {x : α}, IsPath f (pre ++ x :: post) → (post = [] ∧ f x = none) ∨ ∃ u r, post = u :: r ∧ f x = some u
  | [], [], x, h => .inl ⟨rfl, h⟩
  | [], u :: r, x, h => .inr ⟨u, r, rfl, h.1⟩
  | [a], post, x, h => pathStep (pre := []) h.2
  | a :: b :: pre, post, x, h => pathStep (pre := b :: pre) h.2
def optD (s : Sm) : Option Nat → PyData
  | none => .none
  | some k => stD (stE s k)
def ansOf (l : List Sm) : Option Nat → Ans
  | none => .ended (l.map smD)
  | some i => .out (l.map smD) (i : Nat)
end Dt
/-! by data -/
namespace Dt
open PySem L2 Evl PyProof.Rows
theorem eqvSp (a b : Nat × Nat) : PyData.eqv (spD a) (spD b) = decide (a = b) := by
  obtain ⟨a1, a2⟩ := a
  obtain ⟨b1, b2⟩ := b
  have h := eqvPair (a1 : Int) (a2 : Int) (b1 : Int) (b2 : Int)
  have h2 : PyData.eqv (spD (a1, a2)) (spD (b1, b2)) = (decide ((a1 : Int) = b1) && decide ((a2 : Int) = b2)) := h
  rw [h2, ← Bool.decide_and]
  refine decide_eq_decide.mpr ⟨fun ⟨x, y⟩ => by rw [Int.ofNat.inj x, Int.ofNat.inj y], fun e => by cases e; exact ⟨rfl, rfl⟩⟩
theorem eqvSt (a b : (Nat × Nat) × Nat × Nat) : PyData.eqv (stD a) (stD b) = decide (a = b) := by
  unfold stD
  rw [PyData.eqv, PyData.eqvAll, PyData.eqvAll, PyData.eqvAll, eqvSp, eqvSp, Bool.and_true, ← Bool.decide_and]
  refine decide_eq_decide.mpr ⟨fun ⟨x, y⟩ => Prod.ext x y, fun e => by rw [e]; exact ⟨rfl, rfl⟩⟩
theorem eqvStN (a : (Nat × Nat) × Nat × Nat) : PyData.eqv (stD a) .none = false := by
  unfold stD
  rw [PyData.eqv]
  all_goals intros
  all_goals simp_all
theorem stD_shaped (s : (Nat × Nat) × Nat × Nat) : SeqAt.shaped (stD s) = true := shp (k := 2) (okT fun d hd => by
  rcases List.mem_cons.mp hd with rfl | hd
  · exact spD_ok _
  · rw [List.mem_singleton] at hd
    subst hd
    exact spD_ok _)
theorem optD_shaped (s : Sm) (c : Option Nat) : SeqAt.shaped (optD s c) = true := by
  cases c with
  | none => rfl
  | some k => exact stD_shaped _
theorem eqvOpt {n : Nat} {s : Sm} {j : Nat} {c : Option Nat} (hs : isSm n s) (hj : j < 3) (hc : ∀ k, c = some k → k < 3) : PyData.eqv (stD (stE s j)) (optD s c) = decide (some j = c) := by
  cases c with
  | none => exact (eqvStN _).trans (by simp)
  | some k =>
    refine (eqvSt _ _).trans (decide_eq_decide.mpr ⟨fun e => ?_, fun e => by cases e; rfl⟩)
    rw [(stE_inj hs hs hj (hc k rfl) e).2]
/-- a step as a key -/
def keySp (s : Nat × Nat) : NestedKey := .tup [.num (s.1 : Nat), .num (s.2 : Nat)]
def keySt (s : (Nat × Nat) × Nat × Nat) : NestedKey := .tup [keySp s.1, keySp s.2]
theorem keyStD (s : (Nat × Nat) × Nat × Nat) : (keySt s).data = stD s := rfl
theorem keySt8 (s : (Nat × Nat) × Nat × Nat) : (keySt s).depth ≤ 8 := by
  unfold keySt keySp
  simp [NestedKey.depth, NestedKey.depthAll]
theorem keyInj {a b : (Nat × Nat) × Nat × Nat} (e : keySt a = keySt b) : a = b := by
  obtain ⟨⟨a1, a2⟩, a3, a4⟩ := a
  obtain ⟨⟨b1, b2⟩, b3, b4⟩ := b
  simp [keySt, keySp] at e
  obtain ⟨⟨h1, h2⟩, h3, h4⟩ := e
  rw [Int.ofNat.inj h1, Int.ofNat.inj h2, Int.ofNat.inj h3, Int.ofNat.inj h4]
section
variable {K : PySem.W.Frag} {σ : L2.St} {H H' : Hp} {ta tb te tx : TE} {d : PyData} {D : Ends} {tz : TS} {g : TG}
theorem qAsgG (h : EvD K te σ H d) (k : ∀ v H1, Ex H H1 → Dp K H1 v d → g v σ H1 (tz D)) : tSeq (tAsg te g) tz D σ H := h H (Ex.refl H) _ k
theorem tgSt {i j k l : Nat} {x : V} {σ1 : L2.St} {a b c d : Int} (h : Dp K H x (.tuple [.tuple [.int a, .int b], .tuple [.int c, .int d]])) (Q : L2.St → Hp → Prop) (q : Q ((((σ1.set i (some (.int a))).set j (some (.int b))).set k (some (.int c))).set l (some (.int d))) H) :
    gTup K 2 (gCons (gTup K 2 (gCons (gName i) (gCons (gName j) gNil))) (gCons (gTup K 2 (gCons (gName k) (gCons (gName l) gNil))) gNil)) x σ1 H Q := by
  obtain ⟨t, xs, rfl, hs, hr⟩ := dpTup h
  obtain ⟨v, w, rfl, h1, h2⟩ := dps2 hr
  obtain ⟨t1, xs1, rfl, hs1, hr1⟩ := dpTup h1
  obtain ⟨v1, w1, rfl, h3, h4⟩ := dps2 hr1
  obtain ⟨t2, xs2, rfl, hs2, hr2⟩ := dpTup h2
  obtain ⟨v2, w2, rfl, h5, h6⟩ := dps2 hr2
  rw [← dpInt h3, ← dpInt h4, ← dpInt h5, ← dpInt h6] at q
  exact ⟨t, _, rfl, hs, rfl, _, _, rfl, ⟨t1, _, rfl, hs1, rfl, v1, _, rfl, w1, _, rfl, rfl, _, _, rfl, ⟨t2, _, rfl, hs2, rfl, v2, _, rfl, w2, _, rfl, rfl, rfl, q⟩⟩⟩
theorem tgLst3 {x : V} {d1 d2 d3 : PyData} {i j k : Nat} {σ1 : L2.St} (h : Dp K H x (.list [d1, d2, d3])) : ∃ v w z, Dp K H v d1 ∧ Dp K H w d2 ∧ Dp K H z d3 ∧ ∀ Q : L2.St → Hp → Prop, Q (((σ1.set i (some v)).set j (some w)).set k (some z)) H → gLst K 3 (gCons (gName i) (gCons (gName j) (gCons (gName k) gNil))) x σ1 H Q := by
  obtain ⟨a, xs, rfl, hs, hr⟩ := dpLst h
  obtain ⟨v, w, z, rfl, h1, h2, h3⟩ := dps3 hr
  exact ⟨v, w, z, h1, h2, h3, fun Q q => ⟨a, _, rfl, hs, rfl, v, _, rfl, w, _, rfl, z, _, rfl, rfl, q⟩⟩
theorem edMin3 {a b c m : Int} (ha : EvD K ta σ H (.int a)) (hb : EvD K tb σ H (.int b)) (hc : EvD K tx σ H (.int c)) (hm : nuMin3 (.int a) (.int b) (.int c) = some (.int m)) : EvD K (tCB (rNuC3 nuMin3) (tCons ta (tCons tb (tCons tx tNil)))) σ H (.int m) := edI fun H1 e Q q =>
  evI ha H1 e _ fun H2 e2 => evI hb H2 (e.trans e2) _ fun H3 e3 => evI hc H3 ((e.trans e2).trans e3) _ fun H4 e4 => ⟨_, _, _, _, rfl, hm, q H4 ((e2.trans e3).trans e4)⟩
theorem edMinL {ns : List Int} {m : Int} (h : EvD K ta σ H (.list (ns.map .int))) (hn : 0 < ns.length) (hm : m ∈ ns) (hl : ∀ y ∈ ns, m ≤ y) : EvD K (tCB (rMin K) (tCons ta tNil)) σ H (.int m) := edI fun H1 a Q q =>
  h H1 a _ fun v H2 c hv => by
    obtain ⟨p, xs, rfl, hs, hr⟩ := dpLst hv
    have e := fvAll (ws := ns.map V.int) (by rw [List.map_map, List.map_map]; rfl) hr
    subst e
    refine ⟨p, ns, rfl, hs, hn, fun m' hm' hl' => ?_⟩
    have : m' = m := Int.le_antisymm (hl' m hm) (hl m' hm')
    subst this
    exact q H2 c
theorem min3 (a b c : Int) : nuMin3 (.int a) (.int b) (.int c) = some (.int (if c < (if b < a then b else a) then c else (if b < a then b else a))) := by
  have two : ∀ x y : Int, nuMin2 (.int x) (.int y) = some (.int (if y < x then y else x)) := fun x y => by
    show Option.map (fun c => if c = true then V.int y else V.int x) (some (decide (y < x))) = _
    by_cases h : y < x
    · rw [decide_eq_true h, if_pos h]; rfl
    · rw [decide_eq_false h, if_neg h]; rfl
  show (nuMin2 (.int a) (.int b)).bind _ = _
  rw [two]
  show nuMin2 _ _ = _
  rw [two]
end
def Q_left_of : List PyData → PyData → Prop := fun ds d => ∃ n s k, isSm n s ∧ k < 3 ∧ ds = [stD (stE s k)] ∧ d = smD s
def Q_way_on : List PyData → PyData → Prop := fun ds d => ∃ n g s c, Tri n g ∧ isSm n s ∧ (∀ k, c = some k → k < 3) ∧ ds = [.list (triD n g), smD s, optD s c] ∧ d = optD s (wayOf g s c)
def Q_walk_on : List PyData → Ans → Prop := fun ds a => ∃ n g s c t l e, Tri n g ∧ Sg t ∧ isSm n s ∧ Came g t s c ∧ Way n g t s l e ∧ l.length ≤ 20000 ∧ ds = [.list (triD n g), smD s, optD s c] ∧ a = ansOf l e
def Q_walk : List PyData → Ans → Prop := fun ds a => ∃ n g i t l e, Tri n g ∧ Sg t ∧ i < (n - 1) + (n - 1) + (n - 1) ∧ ek g (sideE n i).1 (sideE n i).2 = t ∧ Way n g t (sideE n i).1 l e ∧ ds = [.list (triD n g), .int (i : Nat)] ∧ a = ansOf l e
def Q_walk_out : List PyData → Ans → Prop := fun ds a => ∃ n g s t l e, Tri n g ∧ Sg t ∧ isSm n s ∧ trn g s = -t ∧ Way n g t s l e ∧ ds = [.list (triD n g), smD s] ∧ a = ansOf l e
end Dt
namespace Dt
open PySem L2 Evl PyProof.Rows
theorem eqVInt (a b : Int) : eqV (.int a) (.int b) = decide (a = b) := by
  first | rfl | (unfold eqV; rfl) | simp [eqV]
theorem count3 (a b c m : Int) : (((([a, b, c].map V.int).countP fun z => eqV z (.int m)) : Nat) : Int) = (if a = m then 1 else 0) + (if b = m then 1 else 0) + (if c = m then 1 else 0) := by
  simp only [List.map_cons, List.map_nil, List.countP_cons, List.countP_nil, eqVInt, decide_eq_true_eq]
  split <;> split <;> split <;> rfl
theorem left3 {r1 p1 r2 p2 low : Int} {sm : Sm} {n k : Nat} (hs : isSm n sm) (hk : k < 3) (hr1 : ((stE sm k).1.1 : Int) = r1) (hp1 : ((stE sm k).1.2 : Int) = p1) (hr2 : ((stE sm k).2.1 : Int) = r2) (hp2 : ((stE sm k).2.2 : Int) = p2)
    (hlow : low ∈ [r1, r2, r2 + p2 - p1]) (hmin : ∀ y ∈ [r1, r2, r2 + p2 - p1], low ≤ y) :
    low = (sm.1 : Int) ∧ (if p1 + r1 - r2 < (if p2 < p1 then p2 else p1) then p1 + r1 - r2 else (if p2 < p1 then p2 else p1)) = (sm.2.1 : Int) ∧ ((if r1 = low then 1 else 0) + (if r2 = low then 1 else 0) + (if r2 + p2 - p1 = low then 1 else 0) - 1 : Int) = (sm.2.2 : Int) := by
  obtain ⟨r, p, u⟩ := sm
  have hu := smU hs
  simp only at hu
  simp only [List.mem_cons, List.not_mem_nil, or_false] at hlow hmin
  have m1 := hmin r1 (.inl rfl)
  have m2 := hmin r2 (.inr (.inl rfl))
  have m3 := hmin _ (.inr (.inr rfl))
  clear hmin
  rcases hu with rfl | rfl <;> rcases k3 hk with rfl | rfl | rfl <;> simp [stE, cor, nx3] at hr1 hp1 hr2 hp2 <;> subst hr1 hp1 hr2 hp2 <;> simp only <;> (refine ⟨by omega, ?_, ?_⟩) <;> repeat' split
  all_goals omega
end Dt
namespace Dt
open PySem L2 Evl PyProof.Rows
section
variable {K : PySem.W.Frag} {σ : L2.St} {H0 H H' : Hp} {te : TE} {p : Addr} {ds : List PyData} {d e : PyData} {D : Ends} {tz : TS}
theorem qAppG {i : Nat} (g : Grow K H0 p ds H) (hi : σ[i]? = some (some (.ref p))) (h : EvD K te σ H d) (hn : noL d = true) (hz : ds.length < 100000) (k : ∀ H1, Grow K H0 p (ds ++ [d]) H1 → (∀ v e, noL e = true → Dp K H v e → Dp K H1 v e) → tz D σ H1) :
    tSeq (tDrop (tBM K "list" rAppend (tVar i) (tCons te tNil))) tz D σ H := by
  obtain ⟨h1, h2, h3, xs, h4, h5⟩ := g
  refine ⟨.ref p, hi, .inl ⟨rfl, xs, sq_of h4⟩, h H (Ex.refl H) _ fun v H1 e hv => ?_⟩
  have h6 := e _ _ h4
  have h7 := dpsUp e h5
  refine ⟨p, xs, v, rfl, rfl, h6, sz_lt (by rw [dpsLen h7]; exact hz), k _ ⟨h1, (h2.trans e).mut h1, noLs_app h3 (by rw [noLs, hn]; rfl), _, upd_same, dpsSnoc (dpsTups (tupsMut h6) h7 h3) (dpTups (tupsMut h6) hv hn)⟩ fun w f hf hw => dpTups (tupsMut h6) (dpUp e hw) hf⟩
theorem Grow.dp (g : Grow K H0 p ds H) : Dp K H (.ref p) (.list ds) := by
  obtain ⟨_, _, _, xs, h4, h5⟩ := g
  exact dpOfL h4 h5
end
theorem valIn {k : NestedKey} {v : V} : ∀ {l : List (NestedKey × V)}, (l.map (·.1)).Nodup → (k, v) ∈ l → valV l k = some v
  | [], _, h => nomatch h
  | (k', v') :: l, nd, h => by
    rw [List.map_cons, List.nodup_cons] at nd
    unfold valV
    rcases List.mem_cons.mp h with e | h
    · cases e
      rw [List.find?_cons, decide_eq_true rfl]
      rfl
    · have ne : ¬ k' = k := fun z => nd.1 (List.mem_map.mpr ⟨(k, v), h, z.symm⟩)
      rw [List.find?_cons, decide_eq_false ne]
      exact valIn nd.2 h
/-- the steps of the side by their counts -/
def kvsOf (n : Nat) : List (NestedKey × V) := (List.range (steps n).length).map fun i => (keySt ((steps n).getD i ((0, 0), 0, 0)), .int (i : Nat))
theorem kvsKeys (n : Nat) : (kvsOf n).map (·.1) = (steps n).map keySt := by
  unfold kvsOf
  rw [List.map_map]
  refine List.ext_getElem? fun i => ?_
  rw [List.getElem?_map, List.getElem?_map]
  by_cases h : i < (steps n).length
  · rw [List.getElem?_range h, List.getElem?_eq_getElem h]
    show some (keySt ((steps n).getD i ((0, 0), 0, 0))) = some _
    rw [List.getD_eq_getElem?_getD, List.getElem?_eq_getElem h]
    rfl
  · rw [List.getElem?_eq_none (by rw [List.length_range]; omega), List.getElem?_eq_none (by omega)]
    rfl
theorem kvsNodup {n : Nat} (h : 2 ≤ n) : ((kvsOf n).map (·.1)).Nodup := by
  rw [kvsKeys]
  refine List.pairwise_map.mpr ((stepsNodup h).imp fun {a b} ne e => ne (keyInj e))
theorem kvsIn {n i : Nat} {s : (Nat × Nat) × Nat × Nat} (h : 2 ≤ n) (hs : (steps n)[i]? = some s) : valV (kvsOf n) (keySt s) = some (.int (i : Nat)) := by
  refine valIn (kvsNodup h) (List.mem_map.mpr ⟨i, List.mem_range.mpr (List.getElem?_eq_some_iff.mp hs).1, ?_⟩)
  rw [List.getD_eq_getElem?_getD, hs]
  rfl
theorem kvsOut {n : Nat} {s : (Nat × Nat) × Nat × Nat} (hs : s ∉ steps n) : valV (kvsOf n) (keySt s) = none := valNone (by
  rw [kvsKeys]
  intro h
  obtain ⟨t, ht, e⟩ := List.mem_map.mp h
  rw [keyInj e] at ht
  exact hs ht)
theorem doorsIff {n i : Nat} {g : Nat → Nat → Nat} : i ∈ doorsOf (pairs (codes n g)) ↔ i < (n - 1) + (n - 1) + (n - 1) ∧ ek g (sideE n i).1 (sideE n i).2 ≠ 0 := by
  unfold doorsOf
  rw [← stepsPairs, List.mem_filter, List.mem_range, List.length_map, stepsLen]
  refine and_congr_right fun h => ?_
  have e : ((steps n).map (stC g)).getD i (0, 0) = stC g (stE (sideE n i).1 (sideE n i).2) := by
    rw [List.getD_eq_getElem?_getD, List.getElem?_map, stepsAt h]
    rfl
  rw [e]
  show drB g _ = true ↔ _
  rw [drEk (n := 0)]
  simp
theorem inInts {i : Nat} {l : List Nat} (h : i ∈ l) : inV (.int (i : Nat)) (l.map fun j => V.int (j : Nat)) = true := by
  unfold inV
  rw [List.any_map, List.any_eq_true]
  exact ⟨i, h, by show eqV (.int (i : Nat)) (.int (i : Nat)) = true; rw [eqVInt]; exact decide_eq_true rfl⟩
theorem stpDoor {n : Nat} {g : Nat → Nat → Nat} {t : Int} {s : Sm} {k : Nat} (ht : Sg t) (hk : k < 3) (h : ek g s k = t) (e : nb n s k = none) : stp n g (-t) s = none := by
  unfold stp
  rw [Int.neg_neg, edIs2 ht hk h]
  split
  · exact e
  · rfl
theorem edFull {n : Nat} {g : Nat → Nat → Nat} {t : Int} {s : Sm} (ht : Sg t) (hs : isSm n s) (h : trn g s = -t) : ed g t s = none := by
  have := ((turnSome ht.neg hs).mp h).2
  rwa [Int.neg_neg] at this
theorem stpFull {n : Nat} {g : Nat → Nat → Nat} {t : Int} {s : Sm} (ht : Sg t) (hs : isSm n s) (h : trn g s = -t) : stp n g (-t) s = none := by
  unfold stp
  rw [Int.neg_neg, edFull ht hs h]
  split <;> rfl
theorem wayLen {n : Nat} {g : Nat → Nat → Nat} {t : Int} {s : Sm} {l : List Sm} {e : Option Nat} (ht : Sg t) (hs : isSm n s) (h0 : stp n g (-t) s = none) (w : Way n g t s l e) (hi : n ≤ 100) : l.length ≤ 20000 := by
  have hh := w.head
  match l, hh with
  | x :: r, hh =>
    cases hh
    have h1 := chainLen ht hs h0 (path_iff.mp w.path).1
    have h2 : n * n ≤ 100 * 100 := Nat.mul_le_mul hi hi
    omega
end Dt

/-! What the laws say of walks. -/
namespace Dt
open PySem L2 Evl PyProof.Rows
/-- the spots shared over edge k, as they stand in the list of spots -/
def shr (x : Sm) (k : Nat) : List (Nat × Nat) := if k = 2 then [cor x 0, cor x 2] else [cor x k, cor x (nx3 k)]
def crs (x : Sm) : List (Nat × Nat) := [cor x 0, cor x 1, cor x 2]
theorem shrPerm {x : Sm} {k : Nat} (hk : k < 3) : (shr x k).Perm [cor x k, cor x (nx3 k)] := by
  rcases k3 hk with rfl | rfl | rfl
  · exact .refl _
  · exact .refl _
  · exact .swap _ _ _
theorem shrIs {n : Nat} {x u : Sm} {k : Nat} (hx : isSm n x) (hk : k < 3) (e : nb n x k = some u) : (crs x).filter (fun s => decide (s ∈ crs u)) = shr x k := by
  obtain ⟨r, p, w⟩ := x
  have hu := smU hx
  simp only at hu
  rcases hu with rfl | rfl <;> rcases k3 hk with rfl | rfl | rfl <;> simp only [nb] at e <;> simp at e
  all_goals first
    | (obtain ⟨h0, rfl⟩ := e)
    | (cases e)
  all_goals simp [crs, shr, cor, nx3]
  · obtain ⟨r', rfl⟩ : ∃ r', r = r' + 1 := ⟨r - 1, by omega⟩
    simp [List.filter_cons]
  · obtain ⟨p', rfl⟩ : ∃ p', p = p' + 1 := ⟨p - 1, by omega⟩
    simp [List.filter_cons]
theorem edgeNe {n : Nat} {u : Sm} {j k : Nat} (hu : isSm n u) (hj : j < 3) (hk : k < 3) (ne : j ≠ k) : ¬ [cor u j, cor u (nx3 j)].Perm [cor u k, cor u (nx3 k)] := fun h => by
  have h1 := h.mem_iff (a := cor u j)
  have h2 := h.mem_iff (a := cor u (nx3 j))
  obtain ⟨r, p, w⟩ := u
  have hu := smU hu
  simp only at hu
  rcases hu with rfl | rfl <;> rcases k3 hj with rfl | rfl | rfl <;> rcases k3 hk with rfl | rfl | rfl <;> simp [cor, nx3] at h1 h2 ne <;> omega
/-- the door come in by is not gone out by -/
def Ahead (g : Nat → Nat → Nat) (t : Int) (x : Sm) (a : List (Nat × Nat)) : Prop := ∀ j, j < 3 → ek g x j = -t → ¬ (shr x j).Perm a
theorem aheadIn {n : Nat} {g : Nat → Nat → Nat} {t : Int} {x : Sm} {k : Nat} {a : List (Nat × Nat)} (ht : Sg t) (hx : isSm n x) (hk : k < 3) (h : ek g x k = t) (ha : a.Perm [cor x k, cor x (nx3 k)]) : Ahead g t x a := fun j hj hjt hp => by
  have ne : j ≠ k := fun z => by
    rw [z, h] at hjt
    rcases ht with rfl | rfl <;> exact absurd hjt (by decide)
  exact edgeNe hx hj hk ne (((shrPerm hj).symm.trans hp).trans ha)
theorem aheadNo {g : Nat → Nat → Nat} {t : Int} {x : Sm} : Ahead g t x [] := fun j hj _ hp => by
  have := hp.length_eq
  unfold shr at this
  split at this <;> cases this
theorem aheadOn {n : Nat} {g : Nat → Nat → Nat} {t : Int} {x u : Sm} {k : Nat} (ht : Sg t) (hx : isSm n x) (hk : k < 3) (h : ek g x k = -t) (e : nb n x k = some u) : Ahead g t u (shr x k) := by
  obtain ⟨hu, ho, _, c1, c2⟩ := nbBack g hk hx e
  refine aheadIn ht hu ho (by rw [ekBack g hk hx e, h, Int.neg_neg]) ((shrPerm hk).trans ?_)
  rw [c1, c2]
  exact .swap _ _ _
theorem spD_inj {a b : Nat × Nat} (e : spD a = spD b) : a = b := by
  obtain ⟨a1, a2⟩ := a
  obtain ⟨b1, b2⟩ := b
  simp [spD] at e
  rw [Int.ofNat.inj e.1, Int.ofNat.inj e.2]
theorem spAny (l : List (Nat × Nat)) (s : Nat × Nat) : (l.map spD).any (fun z => PyData.eqv z (spD s)) = decide (s ∈ l) := by
  rw [List.any_map, Bool.eq_iff_iff, List.any_eq_true, decide_eq_true_eq]
  constructor
  · rintro ⟨x, hx, e⟩
    have e : PyData.eqv (spD x) (spD s) = true := e
    rw [eqvSp] at e
    rw [← of_decide_eq_true e]
    exact hx
  · exact fun h => ⟨s, h, by show PyData.eqv (spD s) (spD s) = true; rw [eqvSp]; exact decide_eq_true rfl⟩
theorem eqvSps : ∀ la lb : List (Nat × Nat), PyData.eqvAll (la.map spD) (lb.map spD) = decide (la = lb)
  | [], [] => by simp [PyData.eqvAll]
  | [], _ :: _ => by simp [PyData.eqvAll]
  | _ :: _, [] => by simp [PyData.eqvAll]
  | a :: la, b :: lb => by
    rw [List.map_cons, List.map_cons, PyData.eqvAll, eqvSp, eqvSps la lb]
    simp [Bool.decide_and]
theorem spDs_shaped (l : List (Nat × Nat)) : SeqAt.shaped (.list (l.map spD)) = true := shp (okL (okM fun s _ => spD_ok s))
section
variable {K : PySem.W.Frag} {σ : L2.St} {H H' : Hp} {ta tb te : TE} {d : PyData}
theorem evSortN {l : List (Nat × Nat)} (h : EvD K ta σ H (.list (l.map spD))) : ∀ H1, Ex H H1 → ∀ Q : VK, (∀ p H2 (m : List (Nat × Nat)), Ex H1 H2 → m.Perm l → Dp K H2 (.ref p) (.list (m.map spD)) → Q (.ref p) H2) → tCB (rSortP K) (tCons ta tNil) σ H1 Q := fun H1 e Q q =>
  h H1 e _ fun v H2 b hv => by
    obtain ⟨a, xs, rfl, hs, hd⟩ := dpLst hv
    refine ⟨a, xs, rfl, hs, fun x hx => ?_, fun ys p pm hp => ?_⟩
    · obtain ⟨d, h1, h2⟩ := dpsMem hd x hx
      obtain ⟨s, _, rfl⟩ := List.mem_map.mp h1
      obtain ⟨t, zs, rfl, h3, h4⟩ := dpTup h2
      obtain ⟨v1, v2, rfl, h5, h6⟩ := dps2 h4
      rw [dpInt h5, dpInt h6] at h3
      exact ⟨t, _, _, rfl, h3⟩
    · obtain ⟨m, h1, h2⟩ := dpsPerm pm hd
      exact q p _ m (b.trans (Ex.new hp)) h2 (dpOfL upd_same (dpsUp (Ex.new hp) h1))
theorem edSortNeN {la lb : List (Nat × Nat)} (ha : EvD K ta σ H (.list (la.map spD))) (hb : EvD K tb σ H (.list (lb.map spD))) (ne : ¬ la.Perm lb) : EvD K (tOp (rEqD K) (tCB (rSortP K) (tCons ta tNil)) (tCB (rSortP K) (tCons tb tNil))) σ H (.bool false) := edB fun H1 e Q q =>
  evSortN ha H1 e _ fun p H2 m e2 pm hm => evSortN hb H2 (e.trans e2) _ fun p' H3 m' e3 pm' hm' => ⟨_, _, dpUp e3 hm, hm', spDs_shaped _, spDs_shaped _, by
    have h : PyData.eqv (.list (m.map spD)) (.list (m'.map spD)) = false := by
      rw [PyData.eqv, eqvSps]
      exact decide_eq_false fun z => ne (pm.symm.trans (z ▸ pm'))
    rw [h]
    exact q H3 (e2.trans e3)⟩
end
def P__law_spots : List PyData → List PyData → Prop := fun ds es => ∃ n s, isSm n s ∧ ds = [smD s] ∧ es = (crs s).map spD
def P__law_shared : List PyData → PyData → Prop := fun ds d => ∃ n g x u k, Tri n g ∧ isSm n x ∧ k < 3 ∧ nb n x k = some u ∧ ek g x k ≠ 0 ∧ ds = [.list (triD n g), smD x, smD u] ∧ d = .list ((shr x k).map spD)
def P__law_steps_right : List PyData → PyData → Prop := fun ds d => ∃ n g t l a x, Tri n g ∧ Sg t ∧ (∀ s ∈ l, isSm n s) ∧ l.head? = some x ∧ IsPath (stp n g t) l ∧ l.length ≤ 20000 ∧ Ahead g t x a ∧ ds = [.list (triD n g), .list (l.map smD), .list (a.map spD)] ∧ d = .bool true
def roundL (n : Nat) : List (Nat × Nat) := (List.range ((n - 1) + (n - 1) + (n - 1) + 1)).map (spI n)
def P__law_round : List PyData → List PyData → Prop := fun ds es => ∃ n g, Tri n g ∧ ds = [.list (triD n g)] ∧ es = (roundL n).map spD
def P__law_known : List PyData → PyData → Prop := fun ds d => ∃ n g l, Tri n g ∧ (∀ s ∈ l, isSm n s) ∧ l ≠ [] ∧ l.length ≤ 20000 ∧ ds = [.list (triD n g), .list (l.map smD)] ∧ d = .bool true
theorem roundIs {n : Nat} (h : 2 ≤ n) : (List.range (n - 1)).map (fun p => (0, p)) ++ (List.range (n - 1)).map (fun r => (r, n - 1 - r)) ++ (List.range n).map (fun k => (n - 1 - k, 0)) = roundL n := by
  unfold roundL
  rw [show n - 1 + (n - 1) + (n - 1) + 1 = (n - 1) + (n - 1) + n by omega, rangeApp, rangeApp]
  congr 1
  · congr 1
    · refine List.map_congr_left fun i hi => ?_
      rw [List.mem_range] at hi
      rw [spA h (by omega)]
    · refine List.map_congr_left fun i hi => ?_
      rw [List.mem_range] at hi
      rw [spB h (by omega) (by omega)]
      congr 1 <;> omega
  · refine List.map_congr_left fun i hi => ?_
    rw [List.mem_range] at hi
    rw [spC h (by omega)]
    congr 1
    omega
theorem roundAt {n i : Nat} (h : i ≤ (n - 1) + (n - 1) + (n - 1)) : (roundL n)[i]? = some (spI n i) := by
  unfold roundL
  rw [List.getElem?_map, List.getElem?_range (by omega)]
  rfl
end Dt
namespace Dt
open PySem L2 Evl PyProof.Rows
theorem corIn (x : Sm) {k : Nat} (hk : k < 3) : cor x k ∈ crs x := by
  unfold crs
  rcases k3 hk with rfl | rfl | rfl <;> simp
theorem corIn2 (x : Sm) {k : Nat} (hk : k < 3) : cor x (nx3 k) ∈ crs x := by
  unfold crs
  rcases k3 hk with rfl | rfl | rfl <;> simp [nx3]
theorem corT {n : Nat} {x : Sm} (hx : isSm n x) : ∀ s ∈ crs x, s.1 + s.2 < n := by
  intro s hs
  obtain ⟨r, p, w⟩ := x
  rcases hx with ⟨hu, hh⟩ | ⟨hu, hh⟩ <;> simp only at hu hh <;> subst hu <;> simp [crs, cor] at hs <;> rcases hs with rfl | rfl | rfl <;> simp only <;> omega
theorem sideSp {n i : Nat} (h : i < (n - 1) + (n - 1) + (n - 1)) : spI n i = cor (sideE n i).1 (sideE n i).2 ∧ spI n (i + 1) = cor (sideE n i).1 (nx3 (sideE n i).2) := by
  have h1 := stepsSp h
  rw [stepsAt h] at h1
  have h2 := Option.some.inj h1
  exact ⟨(congrArg Prod.fst h2).symm, (congrArg Prod.snd h2).symm⟩
theorem cut2 {l : List PyData} {i : Nat} {a b : PyData} (ha : l[i]? = some a) (hb : l[i + 1]? = some b) : cutD l (some (i : Int)) (some ((i : Int) + 2)) = [a, b] := by
  have h1 := (List.getElem?_eq_some_iff.mp hb).1
  unfold cutD
  rw [show ((i : Int) + 2) = ((i + 2 : Nat) : Int) by omega, show HT.sIx l.length 0 (some (i : Int)) = min i l.length from HT.sIx_nat l.length 0 i, show HT.sIx l.length l.length (some ((i + 2 : Nat) : Int)) = min (i + 2) l.length from HT.sIx_nat l.length _ (i + 2), show min i l.length = i by omega, show min (i + 2) l.length - i = 2 by omega]
  refine List.ext_getElem? fun j => ?_
  rw [List.getElem?_take]
  match j with
  | 0 => rw [if_pos (by decide), List.getElem?_drop, Nat.add_zero, ha]; rfl
  | 1 => rw [if_pos (by decide), List.getElem?_drop, hb]; rfl
  | j + 2 => rw [if_neg (by omega)]; rfl
theorem leadIs {g : Nat → Nat → Nat} {t : Int} {x : Sm} {k : Nat} (ht : Sg t) (h : ek g x k = t) : decide (at2 g (cor x k) = 97) = decide (t = 1) := by
  rcases ht with rfl | rfl
  · rw [(egOne h).1]; rfl
  · rw [(egNeg h).1]; rfl
/-- what a way from a door has at its end -/
theorem wayIn {n : Nat} {g : Nat → Nat → Nat} {t : Int} {s x : Sm} {l : List Sm} {e : Option Nat} {k : Nat} (ht : Sg t) (hk : k < 3) (h : ek g s k = t) (w : Way n g t s l e) (hx : l.getLast? = some x) : ∃ j, ed g t x = some j := by
  have hp := (path_iff.mp w.path).1
  rw [List.getLast?_eq_getElem?] at hx
  cases hj : l.length - 1 with
  | zero =>
    rw [hj, ← List.head?_eq_getElem?, w.head] at hx
    cases hx
    exact ⟨k, edIs2 ht hk h⟩
  | succ j =>
    rw [hj] at hx
    obtain ⟨z, _, hz⟩ := chain_prev hp hx
    have hb := stpBack ht _ _ hz
    unfold stp at hb
    split at hb
    · rw [Int.neg_neg] at hb
      cases he : ed g t x with
      | none => rw [he] at hb; cases hb
      | some j => exact ⟨j, rfl⟩
    · cases hb
theorem wayEnd {n : Nat} {g : Nat → Nat → Nat} {t : Int} {s x : Sm} {l : List Sm} {e : Option Nat} (w : Way n g t s l e) (hx : l.getLast? = some x) : isSm n x ∧ stp n g t x = none ∧ e = outAt n g t x := by
  obtain ⟨y, h1, h2⟩ := w.last
  rw [hx] at h1
  cases h1
  obtain ⟨_, z, h3, h4⟩ := path_iff.mp w.path
  rw [hx] at h3
  cases h3
  exact ⟨w.all x (List.mem_of_getLast? hx), h4, h2⟩
/-- ended: full, of the turn of the door come in by -/
theorem wayFull {n : Nat} {g : Nat → Nat → Nat} {t : Int} {s x : Sm} {l : List Sm} {k : Nat} (ht : Sg t) (hk : k < 3) (h : ek g s k = t) (w : Way n g t s l none) (hx : l.getLast? = some x) : trn g x = t := by
  obtain ⟨h1, _, h3⟩ := wayEnd w hx
  obtain ⟨j, hj⟩ := wayIn ht hk h w hx
  refine (turnSome ht h1).mpr ⟨by rw [hj]; rfl, ?_⟩
  unfold outAt at h3
  cases he : ed g (-t) x with
  | none => rfl
  | some j => rw [he] at h3; cases h3
/-- out at a door -/
theorem wayOut {n : Nat} {g : Nat → Nat → Nat} {t : Int} {s x : Sm} {l : List Sm} {j : Nat} (w : Way n g t s l (some j)) (hx : l.getLast? = some x) : ∃ k, k < 3 ∧ ek g x k = -t ∧ nb n x k = none ∧ j = sideI n x k ∧ j < (n - 1) + (n - 1) + (n - 1) ∧ sideE n j = (x, k) := by
  obtain ⟨h1, h2, h3⟩ := wayEnd w hx
  unfold outAt at h3
  cases he : ed g (-t) x with
  | none => rw [he] at h3; cases h3
  | some k =>
    rw [he] at h3
    obtain ⟨k1, k2⟩ := edSome he
    have hj : j = sideI n x k := Option.some.inj h3
    unfold stp at h2
    rw [if_pos h1, he] at h2
    have hn : nb n x k = none := h2
    obtain ⟨a, b⟩ := sideI_ok k1 h1 hn
    rw [← hj] at a b
    exact ⟨k, k1, k2, hn, hj, a, b⟩
theorem outDoor {n : Nat} {g : Nat → Nat → Nat} {t : Int} {i : Nat} (h2 : 2 ≤ n) (hi : i < (n - 1) + (n - 1) + (n - 1)) (ht : Sg t) (h : ek g (sideE n i).1 (sideE n i).2 = t) : outAt n g (-t) (sideE n i).1 = some i := by
  obtain ⟨a, b, c, d⟩ := sideOk h2 hi
  unfold outAt
  rw [Int.neg_neg, edIs2 ht b h]
  exact congrArg some d
section
variable {c : Kls} {K : PySem.W.Frag} {σ : L2.St} {H0 H H' : Hp} {ta tb te : TE} {d : PyData} {D : Ends} {tz : TS}
theorem ansSmalls {x : Addr} {l : List Sm} {e : Option Nat} (h : AnsN c K H0 H x (ansOf l e)) : ∃ dx fs q, H x = some (.ins (clsOf c (ansOf l e)) dx fs) ∧ List.lookup (Str.ofString "smalls") fs = some (V.ref q) ∧ NwL K H0 H q (l.map smD) := by
  cases e with
  | none =>
    obtain ⟨dx, q, h1, h2⟩ := h
    exact ⟨dx, _, q, h1, lkHd, h2⟩
  | some j =>
    obtain ⟨dx, q, h1, h2⟩ := h
    exact ⟨dx, _, q, h1, lkHd, h2⟩
theorem edSmalls {x : Addr} {l : List Sm} {e : Option Nat} (hv : Ev te σ H (.ref x)) (h : AnsN c K H0 H x (ansOf l e)) (o : OwnC K (clsOf c (ansOf l e))) (na : NoAttr K (clsOf c (ansOf l e)) "smalls") : EvD K (tFld K te "smalls") σ H (.list (l.map smD)) := by
  obtain ⟨dx, fs, q, h1, h2, h3⟩ := ansSmalls h
  exact edFld hv h1 o.cl na h2 h3.dp
theorem edDoor {x : Addr} {l : List Sm} {j : Nat} (hv : Ev te σ H (.ref x)) (h : AnsN c K H0 H x (ansOf l (some j))) (o : OwnC K c.out) (na : NoAttr K c.out "door") : EvD K (tFld K te "door") σ H (.int (j : Nat)) := by
  obtain ⟨dx, q, h1, h2⟩ := h
  exact edFld hv h1 o.cl na ((lkTl nDS).trans lkHd) (.int _)
theorem enCatVN {i : Nat} {p : Addr} {xs : List V} {ds es : List PyData} (hi : σ[i]? = some (some (.ref p))) (h1 : H p = some (.lst xs)) (hd : DpAll K H xs ds) (hb : EvN K tb σ H es) (hl : ds.length + es.length ≤ 100000) : EvN K (tOp rCat (tVar i) tb) σ H (ds ++ es) := fun H1 a _ q =>
  ⟨_, hi, hb H1 a _ fun p' ys H3 hp' c h3 he => ⟨p, p', xs, ys, rfl, rfl, c p _ (a p _ h1), h3, sz_of (by rw [dpsLen hd, dpsLen he]; exact hl), fun l hlz => q l _ _ (fresh_back c hlz) (c.trans (Ex.new hlz)) upd_same (dpsApp (dpsUp ((a.trans c).trans (Ex.new hlz)) hd) (dpsUp (Ex.new hlz) he))⟩⟩
theorem qAppF {q : Addr} {xs : List V} (h : Ev ta σ H (.ref q)) (hx : H q = some (.lst xs)) (he : EvD K te σ H d) (hz : xs.length < 100000) (k : ∀ v H1, Ex H H1 → Dp K H1 v d → tz D σ (upd H1 q (.lst (xs ++ [v])))) :
    tSeq (tDrop (tBM K "list" rAppend ta (tCons te tNil))) tz D σ H :=
  h H (Ex.refl H) _ fun H1 e1 => ⟨.inl ⟨rfl, xs, sq_of (e1 _ _ hx)⟩, he H1 e1 _ fun v H2 e2 hv => ⟨q, xs, v, rfl, rfl, (e1.trans e2) _ _ hx, sz_lt hz, k v H2 (e1.trans e2) hv⟩⟩
end
end Dt
namespace Dt
open PySem L2 Evl PyProof.Rows
theorem evFldR {K : PySem.W.Frag} {σ : L2.St} {H : Hp} {te : TE} {x C dx q : Addr} {fs : List (Str × V)} {f : Str} (h : Ev te σ H (.ref x)) (hx : H x = some (.ins C dx fs)) (cl : Cls K C) (na : NoAttr K C f) (hl : fs.lookup f = some (.ref q)) : Ev (tFld K te f) σ H (.ref q) := fun H1 a Q qq =>
  h H1 a _ fun H2 b => ⟨x, C, dx, fs, _, rfl, b _ _ (a _ _ hx), cl, na, hl, qq H2 b⟩
end Dt

/-! The walks by hand; a choice of the doors, of the full ones. -/
namespace Dt
open PySem L2 Evl PyProof.Rows
theorem pickLen2 {α : Type} (L : List α) (a k : Int) : ((ixs2 L.length a k).filterMap (L[·]?)).length ≤ L.length := by
  have h := slicePick_size_le (L.map fun _ => Value.none).toArray (some a) none (some k)
  have e : slicePick (L.map fun _ => Value.none).toArray (some a) none (some k) = ((ixs2 L.length a k).filterMap ((L.map fun _ => Value.none)[·]?)).toArray := by
    unfold slicePick ixs2
    rw [List.size_toArray, List.length_map]
    congr 2
    funext i
    rw [List.getElem?_toArray]
  rw [e, List.size_toArray, List.size_toArray, pickMap, List.length_map, List.length_map] at h
  exact h
def someOf {α : Type} (L : List α) (k : Nat) (a s : Int) : List α := L.take k ++ (ixs2 L.length a s).filterMap (L[·]?)
theorem someIn {α : Type} (L : List α) (k : Nat) (a s : Int) : ∀ x ∈ someOf L k a s, x ∈ L := fun x hx => by
  rcases List.mem_append.mp hx with h | h
  · exact List.mem_of_mem_take h
  · exact pickIn L _ x h
section
variable {K : PySem.W.Frag} {σ : L2.St} {H H' : Hp} {te ta tb tc : TE} {α : Type} {f : α → PyData} {L : List α} {k : Nat} {a s : Int}
theorem enSome (h : EvD K te σ H (.list (L.map f))) (hk : EvD K tb σ H (.int k)) (ha : EvD K ta σ H (.int a)) (hs : EvD K tc σ H (.int s)) (h0 : s ≠ 0) (hl : L.length ≤ 40000) : EvN K (tOp rCat (tSl (rSlL K) te tNoPart (tPart tb)) (tStep2 K te ta tc)) σ H ((someOf L k a s).map f) := by
  refine enIs (enCat (enCut h eo_none (eo_some (evI hk))) (enStep2 h ha hs h0) ?_) ?_
  · rw [cutTo, List.length_take, List.length_map]
    have := pickLen2 (L.map f) a s
    rw [List.length_map] at this
    omega
  · rw [cutTo, List.length_map, pickMap, ← List.map_take, ← List.map_append]
    rfl
end
def gE (r p : Nat) : Nat := if r = 0 ∧ p = 1 then 98 else 97
theorem triE : Tri 2 gE := ⟨by decide, by decide, fun r p => by
  unfold gE Code
  split
  · exact .inr (.inl rfl)
  · exact .inl rfl⟩
theorem dE : [PyData.str "ab", .str "a"] = triD 2 gE := by
  have e : (("ab" : Str), ("a" : Str)) = (rowS 2 gE 0, rowS 2 gE 1) := by decide +kernel
  show [PyData.str "ab", .str "a"] = [.str (rowS 2 gE 0), .str (rowS 2 gE 1)]
  have e1 := congrArg Prod.fst e
  have e2 := congrArg Prod.snd e
  simp only at e1 e2
  rw [e1, e2]
theorem one_way {n : Nat} {g : Nat → Nat → Nat} {t : Int} {s : Sm} {e : Option Nat} (hs : isSm n s) (h0 : stp n g t s = none) (he : e = outAt n g t s) : Way n g t s [s] e := ⟨h0, rfl, fun x hx => by rw [List.mem_singleton] at hx; rw [hx]; exact hs, ⟨s, rfl, he⟩⟩
theorem wA : Way 2 gA 1 (0, 0, 1) [(0, 0, 1)] none := one_way (.inl ⟨rfl, by decide⟩) (by decide +kernel) (by decide +kernel)
theorem wE : Way 2 gE (-1) (0, 0, 1) [(0, 0, 1)] (some 0) := one_way (.inl ⟨rfl, by decide⟩) (by decide +kernel) (by decide +kernel)
theorem wB : Way 2 gB 1 (0, 0, 1) [(0, 0, 1)] (some 0) := one_way (.inl ⟨rfl, by decide⟩) (by decide +kernel) (by decide +kernel)
theorem qA : Q_walk [.list (triD 2 gA), .int (0 : Nat)] (ansOf [(0, 0, 1)] none) := ⟨2, gA, 0, 1, _, _, triA, .inl rfl, by decide, by decide +kernel, wA, rfl, rfl⟩
theorem qE : Q_walk [.list (triD 2 gE), .int (1 : Nat)] (ansOf [(0, 0, 1)] (some 0)) := ⟨2, gE, 1, -1, _, _, triE, .inr rfl, by decide, by decide +kernel, wE, rfl, rfl⟩
theorem qB : Q_walk_out [.list (triD 2 gB), smD (0, 0, 1)] (ansOf [(0, 0, 1)] (some 0)) := ⟨2, gB, (0, 0, 1), 1, _, _, triB, .inl rfl, .inl ⟨rfl, by decide⟩, by decide +kernel, wB, rfl, rfl⟩
theorem fldSm {c : Kls} {K : PySem.W.Frag} {l : List Sm} {e : Option Nat} : ∀ (H1 H2 : Hp) (x : Addr), AnsN c K H1 H2 x (ansOf l e) → ∃ dx fs v, H2 x = some (.ins (clsOf c (ansOf l e)) dx fs) ∧ List.lookup (Str.ofString "smalls") fs = some v ∧ Dp K H2 v (.list (l.map smD)) := fun Ha Hb z hz => by
  obtain ⟨dx, fs, q, g1, g2, g3⟩ := ansSmalls hz
  exact ⟨dx, fs, _, g1, g2, g3.dp⟩
theorem fldDr {c : Kls} {K : PySem.W.Frag} {l : List Sm} {j : Nat} : ∀ (H1 H2 : Hp) (x : Addr), AnsN c K H1 H2 x (ansOf l (some j)) → ∃ dx fs v, H2 x = some (.ins (clsOf c (ansOf l (some j))) dx fs) ∧ List.lookup (Str.ofString "door") fs = some v ∧ Dp K H2 v (.int (j : Nat)) := fun Ha Hb z hz => by
  obtain ⟨dx, q, g1, g2⟩ := hz
  exact ⟨dx, _, _, g1, (lkTl nDS).trans lkHd, .int _⟩
end Dt
namespace Dt
open PySem L2 Evl PyProof.Rows
theorem wayIn2 {n : Nat} {g : Nat → Nat → Nat} {t : Int} {s x : Sm} {l : List Sm} {e : Option Nat} (ht : Sg t) (w : Way n g t s l e) (hx : l.getLast? = some x) : x = s ∨ ∃ j, ed g t x = some j := by
  have hp := (path_iff.mp w.path).1
  rw [List.getLast?_eq_getElem?] at hx
  cases hj : l.length - 1 with
  | zero =>
    rw [hj, ← List.head?_eq_getElem?, w.head] at hx
    cases hx
    exact .inl rfl
  | succ j =>
    rw [hj] at hx
    obtain ⟨z, _, hz⟩ := chain_prev hp hx
    have hb := stpBack ht _ _ hz
    unfold stp at hb
    split at hb
    · rw [Int.neg_neg] at hb
      cases he : ed g t x with
      | none => rw [he] at hb; cases hb
      | some j => exact .inr ⟨j, rfl⟩
    · cases hb
/-- from a full one to another: not itself, of the other turn -/
theorem fullEnd {n : Nat} {g : Nat → Nat → Nat} {t : Int} {s x : Sm} {l : List Sm} (ht : Sg t) (hs : isSm n s) (htr : trn g s = -t) (w : Way n g t s l none) (hx : l.getLast? = some x) : x ≠ s ∧ trn g x = t := by
  obtain ⟨h1, _, h3⟩ := wayEnd w hx
  have h4 : ed g (-t) x = none := by
    unfold outAt at h3
    cases he : ed g (-t) x with
    | none => rfl
    | some j => rw [he] at h3; cases h3
  have ne : x ≠ s := fun z => by
    have h5 := ((turnSome ht.neg hs).mp htr).1
    rw [← z, h4] at h5
    cases h5
  refine ⟨ne, (turnSome ht h1).mpr ⟨?_, h4⟩⟩
  rcases wayIn2 ht w hx with h | ⟨j, h⟩
  · exact absurd h ne
  · rw [h]; rfl
theorem outFull {n : Nat} {g : Nat → Nat → Nat} {t : Int} {s : Sm} (ht : Sg t) (hs : isSm n s) (htr : trn g s = -t) : outAt n g (-t) s = none := by
  unfold outAt
  rw [Int.neg_neg, edFull ht hs htr]
  rfl
theorem eqvSm (a b : Sm) : PyData.eqv (smD a) (smD b) = decide (a = b) := by
  obtain ⟨a1, a2, a3⟩ := a
  obtain ⟨b1, b2, b3⟩ := b
  have h : PyData.eqv (smD (a1, a2, a3)) (smD (b1, b2, b3)) = (decide ((a1 : Int) = b1) && (decide ((a2 : Int) = b2) && decide ((a3 : Int) = b3))) := eqvTup3 _ _ _ _ _ _
  rw [h, ← Bool.decide_and, ← Bool.decide_and]
  refine decide_eq_decide.mpr ⟨fun ⟨x, y, z⟩ => by rw [Int.ofNat.inj x, Int.ofNat.inj y, Int.ofNat.inj z], fun e => by cases e; exact ⟨rfl, rfl, rfl⟩⟩
def Q__law_right4 : List PyData → PyData → Prop := fun ds d => ∃ n g s, Tri n g ∧ isSm n s ∧ trn g s ≠ 0 ∧ ds = [.list (triD n g), smD s] ∧ d = .bool true
theorem trnSg {g : Nat → Nat → Nat} {s : Sm} {n : Nat} (hs : isSm n s) (h : trn g s ≠ 0) : ∃ t, Sg t ∧ trn g s = -t := by
  have h3 := trnEk g hs
  by_cases h1 : trn g s = 1
  · exact ⟨-1, .inr rfl, h1⟩
  · by_cases h2 : trn g s = -1
    · exact ⟨1, .inl rfl, h2⟩
    · exfalso
      have one := fun (t : Int) (ht : Sg t) => turnSome (g := g) ht hs
      have i0 := egIs (at2 g (cor s 0)) (at2 g (cor s (nx3 0)))
      have i1 := egIs (at2 g (cor s 1)) (at2 g (cor s (nx3 1)))
      have i2 := egIs (at2 g (cor s 2)) (at2 g (cor s (nx3 2)))
      have i0 : ek g s 0 = 1 ∨ ek g s 0 = -1 ∨ ek g s 0 = 0 := i0
      have i1 : ek g s 1 = 1 ∨ ek g s 1 = -1 ∨ ek g s 1 = 0 := i1
      have i2 : ek g s 2 = 1 ∨ ek g s 2 = -1 ∨ ek g s 2 = 0 := i2
      have u01 : ∀ t : Int, Sg t → ek g s 0 = t → ek g s 1 = t → False := fun t ht a b => absurd (ekOne g s ht (by decide) (by decide) a b) (by decide)
      have u02 : ∀ t : Int, Sg t → ek g s 0 = t → ek g s 2 = t → False := fun t ht a b => absurd (ekOne g s ht (by decide) (by decide) a b) (by decide)
      have u12 : ∀ t : Int, Sg t → ek g s 1 = t → ek g s 2 = t → False := fun t ht a b => absurd (ekOne g s ht (by decide) (by decide) a b) (by decide)
      have p : Sg 1 := .inl rfl
      have m : Sg (-1) := .inr rfl
      rcases i0 with a | a | a <;> rcases i1 with b | b | b <;> rcases i2 with c | c | c <;> first
        | exact u01 1 p a b
        | exact u01 (-1) m a b
        | exact u02 1 p a c
        | exact u02 (-1) m a c
        | exact u12 1 p b c
        | exact u12 (-1) m b c
        | (rw [a, b, c] at h3; simp at h3; first | exact h h3 | exact h1 h3 | exact h2 h3)
end Dt

/-! len(set(xs)), xs a list of tuples of whole numbers, all apart, fewer than 200. -/
namespace Dt
open PySem L2 Evl PyProof.Rows
/-! the way through a table of 512 -/
def lp : Nat → Nat → Nat → Nat × Nat
  | 0, x, acc => (x, acc)
  | n + 1, x, acc => lp n ((x * 5 + 1) % 512) (acc ||| 2 ^ x)
theorem lcgI_shift (m i : Nat) : ∀ k, lcgI m ((i * 5 + 1) % (m + 1)) k = lcgI m i (k + 1)
  | 0 => rfl
  | k + 1 => by
    show ((lcgI m ((i * 5 + 1) % (m + 1)) k) * 5 + 1) % (m + 1) = ((lcgI m i (k + 1)) * 5 + 1) % (m + 1)
    rw [lcgI_shift m i k]
theorem lp_one : ∀ (n x acc : Nat), (lp n x acc).1 = lcgI 511 x n
  | 0, x, acc => rfl
  | n + 1, x, acc => by
    show (lp n ((x * 5 + 1) % 512) (acc ||| 2 ^ x)).1 = _
    rw [lp_one n, lcgI_shift 511 x n]
theorem lp_two : ∀ (n x acc j : Nat), (lp n x acc).2.testBit j = true → acc.testBit j = true ∨ ∃ k, k < n ∧ lcgI 511 x k = j
  | 0, x, acc, j, h => .inl h
  | n + 1, x, acc, j, h => by
    have h : (lp n ((x * 5 + 1) % 512) (acc ||| 2 ^ x)).2.testBit j = true := h
    rcases lp_two n _ _ j h with h | ⟨k, hk, e⟩
    · rw [Nat.testBit_or, Bool.or_eq_true] at h
      rcases h with h | h
      · exact .inl h
      · rw [Nat.testBit_two_pow] at h
        exact .inr ⟨0, Nat.succ_pos _, of_decide_eq_true h⟩
    · exact .inr ⟨k + 1, Nat.succ_lt_succ hk, by rw [← e, lcgI_shift 511 x k]⟩
theorem lp_all : lp 512 0 0 = (0, 2 ^ 512 - 1) := by decide +kernel
theorem lcg511 {j : Nat} (hj : j ≤ 511) : ∃ b, b ≤ 511 ∧ lcgI 511 0 b = j := by
  have h : (lp 512 0 0).2.testBit j = true := by
    rw [lp_all]
    show (2 ^ 512 - 1).testBit j = true
    rw [Nat.testBit_two_pow_sub_one]
    exact decide_eq_true (by omega)
  rcases lp_two 512 0 0 j h with h | ⟨k, hk, e⟩
  · rw [Nat.zero_testBit] at h
    cases h
  · exact ⟨k, by omega, e⟩
theorem lcgI_add (m i a : Nat) : ∀ k, lcgI m (lcgI m i a) k = lcgI m i (a + k)
  | 0 => rfl
  | k + 1 => by
    show ((lcgI m (lcgI m i a) k) * 5 + 1) % (m + 1) = ((lcgI m i (a + k)) * 5 + 1) % (m + 1)
    rw [lcgI_add m i a k]
theorem lcg511_mod (k : Nat) : lcgI 511 0 (512 + k) = lcgI 511 0 k := by
  rw [← lcgI_add 511 0 512 k]
  have : lcgI 511 0 512 = 0 := by
    rw [← lp_one 512 0 0, lp_all]
  rw [this]
theorem lcgI_all511 {i j : Nat} (hi : i ≤ 511) (hj : j ≤ 511) : ∃ k, k ≤ 511 ∧ lcgI 511 i k = j := by
  obtain ⟨a, ha, rfl⟩ := lcg511 hi
  obtain ⟨b, hb, rfl⟩ := lcg511 hj
  rcases Nat.lt_or_ge b a with h | h
  · refine ⟨512 + b - a, by omega, ?_⟩
    rw [lcgI_add, show a + (512 + b - a) = 512 + b by omega, lcg511_mod]
  · refine ⟨b - a, by omega, ?_⟩
    rw [lcgI_add, show a + (b - a) = b by omega]
def Mk2 (m : Nat) : Prop := MaskOk m ∨ m = 511
theorem runMeets {m : Nat} (hm : Mk2 m) (h : Int) {j : Nat} (hj : j ≤ m) : ∃ n, n ≤ m + 12 ∧ runI m (SetTable.bits h) n = j := by
  rcases hm with hm | rfl
  · exact run_meets hm h hj
  · obtain ⟨k, hk, e⟩ := lcgI_all511 (runI_le 511 (SetTable.bits h) 12) hj
    exact ⟨12 + k, by omega, by rw [runI_tail (bits_lt h)]; exact e⟩
theorem wayMeets {m : Nat} (hm : Mk2 m) (h : Int) {j : Nat} (hj : j ≤ m) : ∃ k, k < 10 * SetTable.turns m ∧ way m h k = j := by
  obtain ⟨n, hn, e⟩ := runMeets hm h hj
  obtain ⟨k, hk, e2⟩ := run_nth m (SetTable.bits h) n
  refine ⟨k, by unfold SetTable.turns; omega, ?_⟩
  show (nth m (runAt m (SetTable.bits h % (m + 1)) (SetTable.bits h)) k).j = j
  rw [e2]
  exact e
theorem wayLe (m : Nat) (h : Int) (k : Nat) : way m h k ≤ m := by
  have hi : SetTable.bits h % (m + 1) ≤ m := Nat.le_of_lt_succ (Nat.mod_lt _ (Nat.succ_pos _))
  have z := nth_in (m := m) k (runAt m (SetTable.bits h % (m + 1)) (SetTable.bits h)) (by
    show SetTable.bits h % (m + 1) + (SetTable.runEnd m (SetTable.bits h % (m + 1)) - SetTable.bits h % (m + 1)) ≤ m
    have := runEnd_bd hi
    omega)
  show (nth m (runAt m (SetTable.bits h % (m + 1)) (SetTable.bits h)) k).j ≤ m
  omega
theorem freeFind {m : Nat} (hm : Mk2 m) (owner : Array (Option Nat)) (h : Int) {j : Nat} (hj : j ≤ m) (hn : oAt owner j = none) : ∃ K, SetTable.layClean.free m owner (SetTable.turns m) (SetTable.bits h % (m + 1)) (SetTable.bits h) = some (way m h K) ∧ oAt owner (way m h K) = none ∧ ∀ k, k < K → oAt owner (way m h k) ≠ none := by
  obtain ⟨n, hn2, e⟩ := runMeets hm h hj
  have e2 : way m h (off m (SetTable.bits h % (m + 1)) (SetTable.bits h) n) = j := by
    show (nth m (runAt m (SetTable.bits h % (m + 1)) (SetTable.bits h)) _).j = j
    rw [nth_off, itL_run]
    exact e
  obtain ⟨K, hK, k1, k2⟩ := st_least (p := fun k => oAt owner (way m h k) = none) (off m (SetTable.bits h % (m + 1)) (SetTable.bits h) n) (by rw [e2]; exact hn)
  refine ⟨K, ?_, k1, k2⟩
  refine free_spec m owner (SetTable.turns m) n _ _ K (by unfold SetTable.turns; omega) hK (fun k hk => ?_) ?_
  · have := k2 k hk
    show (oAt owner (way m h k)).isNone = false
    cases e : oAt owner (way m h k) with
    | none => exact absurd e this
    | some _ => rfl
  · show (oAt owner (way m h K)).isNone = true
    rw [k1]
    rfl
theorem ownStep {m : Nat} (hm : Mk2 m) {done : List Int} {owner : Array (Option Nat)} (o : Own m done owner) (hl : done.length ≤ m) (h : Int) : ∃ j, SetTable.layClean.free m owner (SetTable.turns m) (SetTable.bits h % (m + 1)) (SetTable.bits h) = some j ∧ Own m (done ++ [h]) (owner.setIfInBounds j (some done.length)) := by
  obtain ⟨ps, p1, p2⟩ := o.ps
  obtain ⟨j0, hj0, hn0⟩ := st_missing ps (m + 1) (by omega)
  have free0 : oAt owner j0 = none := by
    cases e : oAt owner j0 with
    | none => rfl
    | some k => exact absurd (p2 j0 (by omega) (by rw [e]; exact fun z => nomatch z)) hn0
  obtain ⟨K, f1, f2, f3⟩ := freeFind hm owner h (show j0 ≤ m by omega) free0
  have hw := wayLe m h K
  have hb : way m h K < owner.size := by rw [o.sz]; omega
  refine ⟨_, f1, ?_⟩
  refine ⟨by rw [Array.size_setIfInBounds, o.sz], fun j k hj e => ?_, fun k hk => ?_, ⟨way m h K :: ps, by rw [List.length_cons, List.length_append, List.length_singleton, p1], fun j hj hne => ?_⟩⟩
  · by_cases hjw : j = way m h K
    · subst hjw
      rw [oAt_set_self _ hb] at e
      cases e
      refine ⟨h, K, by rw [List.getElem?_append_right (Nat.le_refl _), Nat.sub_self]; rfl, rfl, fun k' hk' => ?_⟩
      by_cases hz : way m h k' = way m h K
      · rw [hz, oAt_set_self _ hb]
        exact fun z => nomatch z
      · rw [oAt_set_ne _ hz]
        exact f3 k' hk'
    · rw [oAt_set_ne _ hjw] at e
      obtain ⟨h', K', g1, g2, g3⟩ := o.at_ j k hj e
      refine ⟨h', K', by rw [List.getElem?_append_left (List.getElem?_eq_some_iff.mp g1).1]; exact g1, g2, fun k' hk' => ?_⟩
      by_cases hz : way m h' k' = way m h K
      · rw [hz, oAt_set_self _ hb]
        exact fun z => nomatch z
      · rw [oAt_set_ne _ hz]
        exact g3 k' hk'
  · rw [List.length_append, List.length_singleton] at hk
    by_cases hkd : k = done.length
    · exact ⟨way m h K, hw, by rw [oAt_set_self _ hb, hkd]⟩
    · obtain ⟨j, j1, j2⟩ := o.all k (by omega)
      have ne : j ≠ way m h K := fun z => by rw [z, f2] at j2; cases j2
      exact ⟨j, j1, by rw [oAt_set_ne _ ne]; exact j2⟩
  · by_cases hjw : j = way m h K
    · rw [hjw]; exact List.mem_cons_self
    · rw [oAt_set_ne _ hjw] at hne
      exact List.mem_cons_of_mem _ (p2 j hj hne)
theorem foldOk {m : Nat} (hm : Mk2 m) : ∀ (rest done : List Int) (owner : Array (Option Nat)), Own m done owner → done.length + rest.length ≤ m → ∃ owner', List.foldl (stepF m) (some (owner, done.length)) rest = some (owner', (done ++ rest).length) ∧ Own m (done ++ rest) owner'
  | [], done, owner, o, _ => ⟨owner, by rw [List.append_nil]; rfl, by rw [List.append_nil]; exact o⟩
  | h :: rest, done, owner, o, hl => by
    rw [List.length_cons] at hl
    obtain ⟨j, h1, h2⟩ := ownStep hm o (by omega) h
    obtain ⟨owner', h3, h4⟩ := foldOk hm rest (done ++ [h]) _ h2 (by rw [List.length_append, List.length_singleton]; omega)
    rw [List.append_assoc] at h3 h4
    refine ⟨owner', ?_, h4⟩
    rw [List.foldl_cons, stepF_some h1]
    rw [List.length_append, List.length_singleton] at h3
    exact h3
theorem layCleanOk {m : Nat} (hm : Mk2 m) {hs : Array Int} (hl : hs.size ≤ m) : ∃ owner, SetTable.layClean m hs = some owner ∧ Own m hs.toList owner := by
  obtain ⟨owner, h1, h2⟩ := foldOk hm hs.toList [] _ (Own.init m) (by rw [Array.length_toList]; simp; omega)
  refine ⟨owner, ?_, h2⟩
  have h1' : List.foldl (stepF m) (some (Array.replicate (m + 1) none, 0)) hs.toList = some (owner, ([] ++ hs.toList).length) := h1
  rw [layClean_eq, h1']
  rfl
theorem relaidOk (t : SetTable) {hs : Array Int} {wanted M : Nat} (hM : SetTable.sizeAbove wanted - 1 = M) (hm : Mk2 M) (hl : hs.size ≤ M) : ∃ t' order, t.relaid hs wanted = some (t', order) ∧ order.toList.Perm (List.range hs.size) ∧ Ris t'.place.toList ∧ t'.place.size = hs.size ∧ (∀ x ∈ t'.place.toList, x ≤ M) ∧ t'.mask = M ∧ t'.led = t.led ∧ t'.plain = t.plain ∧ t'.dummies = #[] := by
  obtain ⟨owner, h1, o⟩ := layCleanOk hm hl
  refine ⟨tabOf t M owner, ((liveOf M owner).map (·.2)).toArray, ?_, ?_⟩
  · rw [relaid_eq, hM, h1]
    rfl
  obtain ⟨rl, rb⟩ := ris_live (fun j => owner.getD j none) (List.range (M + 1)) List.pairwise_lt_range
  have rl : Ris ((liveOf M owner).map (·.1)) := rl
  have rb : ∀ x ∈ (liveOf M owner).map (·.1), x ∈ List.range (M + 1) := rb
  have cov : ∀ k, k < hs.size → k ∈ (liveOf M owner).map (·.2) := fun k hk => by
    obtain ⟨j, j1, j2⟩ := o.all k (by rw [Array.length_toList]; exact hk)
    exact List.mem_map.mpr ⟨(j, k), (mem_live o.sz).mpr ⟨j1, j2⟩, rfl⟩
  have lo : hs.size ≤ (liveOf M owner).length := by
    have := nat_nodup_len (List.range hs.size) ((liveOf M owner).map (·.2)) List.nodup_range fun x hx => cov x (List.mem_range.mp hx)
    rwa [List.length_range, List.length_map] at this
  have up : (liveOf M owner).length ≤ hs.size := by
    obtain ⟨ps, p1, p2⟩ := o.ps
    have nd : ((liveOf M owner).map (·.1)).Nodup := List.Pairwise.imp (fun h => Nat.ne_of_lt h) rl
    have := nat_nodup_len ((liveOf M owner).map (·.1)) ps nd fun x hx => by
      obtain ⟨⟨j, k⟩, h3, rfl⟩ := List.mem_map.mp hx
      obtain ⟨j1, j2⟩ := (mem_live o.sz).mp h3
      exact p2 j j1 (by rw [j2]; exact fun z => nomatch z)
    rw [List.length_map, p1, Array.length_toList] at this
    exact this
  refine ⟨perm_range _ _ (by rw [List.length_map]; omega) cov, rl, by show ((liveOf M owner).map (·.1)).toArray.size = _; rw [List.size_toArray, List.length_map]; omega, fun x hx => ?_, rfl, rfl, rfl, rfl⟩
  have := List.mem_range.mp (rb x hx)
  omega
/-- a set of tuples, all apart -/
structure SN (P : Program) (w : World) (h : Heap) (a : Addr) (L : List (Addr × List Int)) (es : Array (Int × Value)) (ep : Nat) (t : SetTable) : Prop where
  ob : ∃ o, h.get? a = some o ∧ o.ExactSet ∧ o.data = .set es ep t
  rows : es.toList = rowsOf P w L
  ris : Ris t.place.toList
  dm : t.dummies = #[]
  sz : t.place.size = L.length
  mok : Mk2 t.mask
  bd : ∀ x ∈ t.place.toList, x ≤ t.mask
  nd : (L.map (·.2)).Nodup
  tup : ∀ p ∈ L, L2.IsT P w h p.2 p.1
  plain : t.plain = true
  led : w.params.followText "set-order" = true ∨ t.led = true
  room : L.length * 5 < t.mask * 3
  few : L.length < 200
section
variable {P : Program} {w : World} {A : Around} {E : Value → Shared → Prop} {s : Shared} {a : Addr} {L : List (Addr × List Int)} {es : Array (Int × Value)} {ep : Nat} {t : SetTable}
theorem SN.size (S : SN P w s.heap a L es ep t) : es.size = L.length := by
  have := congrArg List.length S.rows
  unfold rowsOf at this
  rw [Array.length_toList, List.length_map] at this
  exact this
theorem SN.fits (S : SN P w s.heap a L es ep t) : t.fits es.size = true := by
  have h1 := S.size
  have h2 := S.room
  have h3 := S.sz
  unfold SetTable.fits SetTable.fill
  rw [S.dm, Bool.and_eq_true, beq_iff_eq, decide_eq_true_eq]
  refine ⟨by omega, ?_⟩
  show t.place.size + 0 ≤ t.mask
  omega
theorem SN.gw (S : SN P w s.heap a L es ep t) : ¬ t.gaveWay = true := by
  have h : t.mask % 2 = 1 := by
    rcases S.mok with h | h
    · exact mask_odd h
    · rw [h]
  unfold SetTable.gaveWay
  rw [h]
  decide
theorem SN.entry (S : SN P w s.heap a L es ep t) {i : Nat} {p : Addr × List Int} (h : L[i]? = some p) : es[i]? = some (thash P w p.2, Value.ref p.1) := by
  have : es.toList[i]? = some (thash P w p.2, Value.ref p.1) := by
    rw [S.rows]
    unfold rowsOf
    rw [List.getElem?_map, h]
    rfl
  rw [← Array.getElem?_toList]
  exact this
theorem SN.first (S : SN P w s.heap a L es ep t) (h : Int) : ∃ K, K < 10 * SetTable.turns t.mask ∧ ¬ way t.mask h K ∈ t.place.toList ∧ ∀ k, k < K → way t.mask h k ∈ t.place.toList := by
  have h2 := S.room
  have h3 := S.sz
  obtain ⟨j, j1, j2⟩ := st_missing t.place.toList (t.mask + 1) (by rw [Array.length_toList]; omega)
  obtain ⟨k, k1, k2⟩ := wayMeets S.mok h (show j ≤ t.mask by omega)
  obtain ⟨K, K1, K2, K3⟩ := st_least (p := fun k => ¬ way t.mask h k ∈ t.place.toList) k (by rw [k2]; exact j2)
  exact ⟨K, by omega, K2, fun c hc => Classical.not_not.mp (K3 c hc)⟩
end
end Dt
namespace Dt
open PySem L2 Evl PyProof.Rows
section
variable {P : Program} {w : World} {A : Around} {E : Value → Shared → Prop} {s : Shared} {a : Addr} {L : List (Addr × List Int)} {es : Array (Int × Value)} {ep : Nat} {t : SetTable}
theorem nthDummy (m : Nat) : ∀ (k : Nat) (p : SetTable.Probe), p.dummy = none → (nth m p k).dummy = none
  | 0, p, h => h
  | k + 1, p, h => by
    rw [nth_succ]
    have h1 := nthDummy m k p h
    unfold adv
    split
    · exact h1
    · exact h1
theorem searchN (S : SN P w s.heap a L es ep t) {x : Addr} {k : List Int} (hx : L2.IsT P w s.heap k x) (hu : A.units < cLine) (hk : k ∉ L.map (·.2)) {K : Nat} (hK : K < 10 * SetTable.turns t.mask) (hw : ¬ way t.mask (thash P w k) K ∈ t.place.toList) (hb : ∀ c, c < K → way t.mask (thash P w k) c ∈ t.place.toList) {Q : SetFound → Shared → Prop}
    (q : Q (.free (way t.mask (thash P w k) K) false) s) : ∀ (f c : Nat) (stand : Option SetTable.Probe), stand.getD (t.probeStart (thash P w k)) = nth t.mask (runAt t.mask (SetTable.bits (thash P w k) % (t.mask + 1)) (SetTable.bits (thash P w k))) c → c ≤ K → K - c < f → wpAny (model P w) A (setSearchFrom a (.ref x) (thash P w k) true f stand) Q E s
  | 0, _, _, _, _, h => absurd h (Nat.not_lt_zero _)
  | f + 1, c, stand, hst, hc, hf => by
    obtain ⟨o, h1, h2, h3⟩ := S.ob
    rw [setSearchFrom_succ]
    refine wpAny_bind (wpAny_setState_of h1 h3 S.fits ?_)
    refine wp_if_neg S.gw ?_
    rw [hst]
    have nd : (nth t.mask (runAt t.mask (SetTable.bits (thash P w k) % (t.mask + 1)) (SetTable.bits (thash P w k))) c).dummy = none := nthDummy _ _ _ rfl
    have sp := go_spec t S.ris S.dm (fun i => (Option.map (fun x => x.fst) es[i]?).getD 0) (thash P w k) (10 * SetTable.turns t.mask) (K - c) _ nd (by omega) (fun c' hc' => by
      rw [← nth_add]
      exact hb (c + c') (by omega)) (by
      rw [← nth_add, show c + (K - c) = K by omega]
      exact hw)
    rcases sp with ⟨k', i, g1, g2, _, _, g5⟩ | ⟨_, g2⟩
    · have e1 : t.probe (fun i => (Option.map (fun x => x.fst) es[i]?).getD 0) (thash P w k) (nth t.mask (runAt t.mask (SetTable.bits (thash P w k) % (t.mask + 1)) (SetTable.bits (thash P w k))) c) = some (SetTable.Met.candidate (nth t.mask (nth t.mask (runAt t.mask (SetTable.bits (thash P w k) % (t.mask + 1)) (SetTable.bits (thash P w k))) c) k').j i (nth t.mask (nth t.mask (runAt t.mask (SetTable.bits (thash P w k) % (t.mask + 1)) (SetTable.bits (thash P w k))) c) (k' + 1))) := g5
      rw [e1]
      have hi : i < L.length := by
        have := (List.getElem?_eq_some_iff.mp g2).1
        rw [Array.length_toList, S.sz] at this
        exact this
      have hL : L[i]? = some L[i] := List.getElem?_eq_getElem hi
      have hp : L[i] ∈ L := List.getElem_mem hi
      have en := S.entry hL
      have hne : L[i].2 ≠ k := fun z => hk (List.mem_map.mpr ⟨L[i], hp, z⟩)
      have rest : wpAny (model P w) A (searchRest a (.ref x) (thash P w k) true f es t (nth t.mask (nth t.mask (runAt t.mask (SetTable.bits (thash P w k) % (t.mask + 1)) (SetTable.bits (thash P w k))) c) k').j i (nth t.mask (nth t.mask (runAt t.mask (SetTable.bits (thash P w k) % (t.mask + 1)) (SetTable.bits (thash P w k))) c) (k' + 1))) Q E s := by
        unfold searchRest
        rw [en]
        refine wpAny_bind (wpAny_holding (wpAny_eqBool_tuple hu (S.tup _ hp) hx ?_))
        rw [decide_eq_false hne]
        refine wpAny_bind (wpAny_setState_of h1 h3 S.fits ?_)
        refine wp_if_neg (by decide) ?_
        rw [sameMem]
        have sl := slot_live S.ris g2
        simp only [if_true, sl, en]
        refine wpAny_bind (wpAny_isSame_ref_self ?_)
        refine wpAny_bind (wpAny_pure ?_)
        simp only [if_true]
        refine wp_if_neg (by decide) ?_
        refine searchN S hx hu hk hK hw hb q f (c + (k' + 1)) _ ?_ (by omega) (by omega)
        exact (nth_add t.mask c _ (k' + 1)).symm
      cases hl : t.led with
      | true =>
        refine wp_if_neg (by decide) ?_
        exact rest
      | false =>
        refine wp_if_pos (by decide) ?_
        refine wpAny_bind (seen_tup hx (fun y hy => ?_) ?_)
        · obtain ⟨e, he, rfl⟩ := List.mem_map.mp hy
          have he2 : e ∈ es.toList := by
            have := Array.mem_filter.mp (Array.mem_toList_iff.mp he)
            exact Array.mem_toList_iff.mpr this.1
          rw [S.rows] at he2
          obtain ⟨p, hp2, rfl⟩ := List.mem_map.mp he2
          exact ⟨p.2, p.1, rfl, S.tup p hp2⟩
        · refine wp_if_neg (by decide) ?_
          exact rest
    · have e1 : t.probe (fun i => (Option.map (fun x => x.fst) es[i]?).getD 0) (thash P w k) (nth t.mask (runAt t.mask (SetTable.bits (thash P w k) % (t.mask + 1)) (SetTable.bits (thash P w k))) c) = some (SetTable.Met.empty (nth t.mask (nth t.mask (runAt t.mask (SetTable.bits (thash P w k) % (t.mask + 1)) (SetTable.bits (thash P w k))) c) (K - c)).j none) := g2
      rw [e1]
      rw [← nth_add, show c + (K - c) = K by omega]
      exact wpAny_pure q
theorem putRis {t : SetTable} {j : Nat} (ris : Ris t.place.toList) (hj : ¬ j ∈ t.place.toList) : Ris (t.put j).1.place.toList := by
  refine ris_insert ris fun z => hj ?_
  rw [← Array.getElem?_toList] at z
  exact List.mem_of_getElem? z
theorem relayN {o : Obj} (h1 : s.heap.get? a = some o) (hex : o.ExactSet) (h3 : o.data = .set es ep t) (rows : es.toList = rowsOf P w L) (sz : t.place.size = L.length) (dm : t.dummies = #[]) (le : L.length ≤ t.mask) (nd : (L.map (·.2)).Nodup) (tup : ∀ p ∈ L, L2.IsT P w s.heap p.2 p.1) (plain : t.plain = true) (led : w.params.followText "set-order" = true ∨ t.led = true) (few : L.length < 200)
    {wanted M : Nat} (hM : SetTable.sizeAbove wanted - 1 = M) (hm : Mk2 M) (h512 : SetTable.sizeAbove wanted ≤ 512) (room : L.length * 5 < M * 3) {Q : Unit → Shared → Prop} (q : ∀ (h' : Heap) (L' : List (Addr × List Int)) (es' : Array (Int × Value)) (ep' : Nat) (t' : SetTable), Heap.SameBut a s.heap h' → SN P w h' a L' es' ep' t' → L'.Perm L → Q () { s with heap := h' }) :
    wpAny (model P w) A (setRelay a wanted) Q E s := by
  have esz : es.size = L.length := by
    have := congrArg List.length rows
    unfold rowsOf at this
    rw [Array.length_toList, List.length_map] at this
    exact this
  have fits : t.fits es.size = true := by
    unfold SetTable.fits SetTable.fill
    rw [dm, Bool.and_eq_true, beq_iff_eq, decide_eq_true_eq]
    refine ⟨by omega, ?_⟩
    show t.place.size + 0 ≤ t.mask
    omega
  obtain ⟨t', order, r1, r2, r3, r4, r5, r6, r7, r8, r9⟩ := relaidOk t (hs := es.map (·.1)) hM hm (by rw [Array.size_map]; omega)
  rw [Array.size_map] at r2 r4
  obtain ⟨L2, l1, l2, _⟩ := order_rows (P := P) (w := w) L es order rows (by rw [← esz]; exact r2)
  have sz2 : (Array.filterMap (fun x => es[x]?) order).size = L2.length := by
    have := congrArg List.length l1
    unfold rowsOf at this
    rw [Array.length_toList, List.length_map] at this
    exact this
  have szL := l2.length_eq
  rw [setRelay_eq]
  refine wpAny_bind (wpAny_setState_of h1 h3 fits ?_)
  refine wp_if_neg (by rw [sizeLine_eq]; omega) ?_
  rw [r1]
  refine wpAny_bind (wp_if_neg ?_ (wpAny_pure ?_))
  · show ¬ ((Array.filterMap (fun x => es[x]?) order).size != es.size) = true
    rw [sz2, szL, esz]
    simp
  refine wpAny_storeSet_of h1 h3 ?_ (by show (Array.filterMap (fun x => es[x]?) order).size ≤ sizeLine; rw [sz2, szL, sizeLine_eq]; omega)
  refine q _ L2 _ _ _ (Heap.SameBut.update _ _ _) ⟨⟨_, store_at h1 h3, ⟨hex.1, hex.2.1, hex.2.2⟩, rfl⟩, l1, r3, r9, by rw [r4, esz, szL], by rw [r6]; exact hm, by rw [r6]; exact r5, ((l2.map _).nodup_iff).mpr nd, fun p hp => isT_same (tup p (l2.mem_iff.mp hp)) h1 h3 (Heap.SameBut.update _ _ _), by rw [r8]; exact plain, by rw [r7]; exact led, by rw [r6, szL]; exact room, by rw [szL]; exact few⟩ l2
theorem addN (S : SN P w s.heap a L es ep t) {x : Addr} {k : List Int} (hx : L2.IsT P w s.heap k x) (hu : A.units < cLine) (hk : k ∉ L.map (·.2)) (hl : L.length + 1 < 200) {Q : Bool → Shared → Prop} (q : ∀ (h' : Heap) (L' : List (Addr × List Int)) (es' : Array (Int × Value)) (ep' : Nat) (t' : SetTable), Heap.SameBut a s.heap h' → SN P w h' a L' es' ep' t' → L'.Perm ((x, k) :: L) → Q true { s with heap := h' }) :
    wpAny (model P w) A (setAddHashed a (.ref x) (thash P w k)) Q E s := by
  obtain ⟨o, h1, h2, h3⟩ := S.ob
  obtain ⟨K, hK, hw, hb⟩ := S.first (thash P w k)
  have mk := S.mok
  have m511 : t.mask ≤ 511 := by
    rcases mk with (h | h | h) | h <;> omega
  have hsz := S.size
  have room := S.room
  unfold setAddHashed
  refine wpAny_holding ?_
  show wpAny _ _ (setAddHashedIn a (.ref x) (thash P w k) (99999 + 1)) _ _ _
  rw [setAddHashedIn_succ]
  refine wpAny_bind (wpAny_setState_of h1 h3 S.fits ?_)
  refine wp_if_neg (by simp [byScan, Value.scannable]) ?_
  refine wpAny_bind ?_
  show wpAny _ _ (setSearchFrom a (.ref x) (thash P w k) true 100000 none) _ _ _
  refine searchN S hx hu hk hK hw hb ?_ 100000 0 none (start_run t _) (Nat.zero_le _) (by unfold SetTable.turns at hK; omega)
  refine wpAny_bind (wpAny_setState_of h1 h3 S.fits ?_)
  generalize hj : way t.mask (thash P w k) K = j at hw
  have hcut := below_cut S.ris j
  have p1 := putRis S.ris hw
  have p2 := put_place t j
  have p3 := put_dm S.dm j
  have hbl : SetTable.below t.place j ≤ L.length := by
    have := hcut.1
    rw [S.sz] at this
    exact this
  have p4 : (t.put j).1.place.size = L.length + 1 := by
    rw [← Array.length_toList, p2, len_ins _ (by rw [Array.length_toList, S.sz]; exact hbl), Array.length_toList, S.sz]
  have p5 : ∀ z ∈ (t.put j).1.place.toList, z ≤ t.mask := fun z hz => by
    rw [p2] at hz
    rcases mem_ins.mp hz with rfl | hz
    · rw [← hj]; exact wayLe _ _ _
    · exact S.bd z hz
  generalize hL' : L.take (SetTable.below t.place j) ++ (x, k) :: L.drop (SetTable.below t.place j) = L'
  have pm : L'.Perm ((x, k) :: L) := by rw [← hL']; exact put_perm L _ _
  have rows' : (SetTable.insertAt es (SetTable.below t.place j) (thash P w k, Value.ref x)).toList = rowsOf P w L' := by
    rw [SetTable.toList_insertAt, S.rows, ← hL', rows_put]
  have nd' : (L'.map (·.2)).Nodup := by
    refine ((pm.map _).nodup_iff).mpr ?_
    rw [List.map_cons, List.nodup_cons]
    exact ⟨hk, S.nd⟩
  have len' : L'.length = L.length + 1 := pm.length_eq
  have esz' : (SetTable.insertAt es (SetTable.below t.place j) (thash P w k, Value.ref x)).size = L.length + 1 := by
    have := congrArg List.length rows'
    unfold rowsOf at this
    rw [Array.length_toList, List.length_map, len'] at this
    exact this
  have pl : (t.put j).1.plain = true := S.plain
  refine wp_if_pos pl ?_
  refine wpAny_bind (hashBy_tup hx ?_)
  refine wpAny_bind (wpAny_storeSet_of h1 h3 ?_ (by rw [esz', sizeLine_eq]; omega))
  have same := Heap.SameBut.update s.heap a (Obj.putSet (SetTable.insertAt es (SetTable.below t.place j) (thash P w k, Value.ref x)) (t.put j).1)
  have at' := store_at (es' := SetTable.insertAt es (SetTable.below t.place j) (thash P w k, Value.ref x)) (t' := (t.put j).1) h1 h3
  have tup' : ∀ p ∈ L', L2.IsT P w (s.heap.update a (Obj.putSet (SetTable.insertAt es (SetTable.below t.place j) (thash P w k, Value.ref x)) (t.put j).1)) p.2 p.1 := fun p hp => by
    rcases List.mem_cons.mp (pm.mem_iff.mp hp) with rfl | hp
    · exact isT_same hx h1 h3 same
    · exact isT_same (S.tup p hp) h1 h3 same
  have fill' : (t.put j).1.fill = L.length + 1 := by
    unfold SetTable.fill
    rw [p3, p4]
    rfl
  by_cases full : (t.put j).1.tooFull = true
  · refine wp_if_pos (by show (!false && (t.put j).1.tooFull) = true; rw [full]; rfl) ?_
    have full2 : (L.length + 1) * 5 ≥ t.mask * 3 := by
      unfold SetTable.tooFull at full
      rw [fill'] at full
      exact of_decide_eq_true full
    have cases3 : (t.mask = 7 ∧ L.length + 1 = 5) ∨ (t.mask = 31 ∧ L.length + 1 = 19) ∨ (t.mask = 127 ∧ L.length + 1 = 77) := by
      rcases mk with (h | h | h) | h <;> omega
    rw [hsz]
    obtain ⟨M, hM, hm, h512, hr⟩ : ∃ M, SetTable.sizeAbove (SetTable.grown (L.length + 1)) - 1 = M ∧ Mk2 M ∧ SetTable.sizeAbove (SetTable.grown (L.length + 1)) ≤ 512 ∧ (L.length + 1) * 5 < M * 3 := by
      rcases cases3 with ⟨_, e⟩ | ⟨_, e⟩ | ⟨_, e⟩ <;> rw [e]
      · exact ⟨31, by decide +kernel, .inl (.inr (.inl rfl)), by decide +kernel, by decide⟩
      · exact ⟨127, by decide +kernel, .inl (.inr (.inr rfl)), by decide +kernel, by decide⟩
      · exact ⟨511, by decide +kernel, .inr rfl, by decide +kernel, by decide⟩
    refine wpAny_bind (relayN (s := { s with heap := s.heap.update a (Obj.putSet (SetTable.insertAt es (SetTable.below t.place j) (thash P w k, Value.ref x)) (t.put j).1) }) at' ⟨h2.1, h2.2.1, h2.2.2⟩ rfl rows' (by rw [p4, len']) p3 (by show L'.length ≤ t.mask; omega) nd' tup' pl S.led (by omega) hM hm h512 (by rw [len']; exact hr) fun h' L2 es2 ep2 t2 same2 S2 pm2 => wpAny_pure (q h' L2 es2 ep2 t2 (same.trans same2) S2 (pm2.trans pm)))
  · refine wp_if_neg (by show ¬ (!false && (t.put j).1.tooFull) = true; rw [Bool.eq_false_iff.mpr full]; decide) ?_
    refine wpAny_pure (q _ L' _ _ _ same ⟨⟨_, at', ⟨h2.1, h2.2.1, h2.2.2⟩, rfl⟩, rows', p1, p3, by rw [p4, len'], mk, p5, nd', tup', pl, S.led, ?_, by omega⟩ pm)
    unfold SetTable.tooFull at full
    rw [fill'] at full
    have := of_decide_eq_false (Bool.eq_false_iff.mpr full)
    show L'.length * 5 < t.mask * 3
    have hmask : (t.put j).1.mask = t.mask := rfl
    rw [hmask] at this
    omega
theorem SN.keep {h h' : Heap} (S : SN P w h a L es ep t) (ho : ∀ o, h.get? a = some o → h'.get? a = some o) (ht : ∀ p ∈ L, L2.IsT P w h' p.2 p.1) : SN P w h' a L es ep t := by
  obtain ⟨o, h1, h2, h3⟩ := S.ob
  exact ⟨⟨o, ho o h1, h2, h3⟩, S.rows, S.ris, S.dm, S.sz, S.mok, S.bd, S.nd, ht, S.plain, S.led, S.room, S.few⟩
theorem snFresh {h : Heap} (e : h.get? a = some { cls := .type "set", data := .set #[] 0 (SetTable.fresh 0 0 !w.params.followText "set-order") }) : SN P w h a [] #[] 0 (SetTable.fresh 0 0 !w.params.followText "set-order") :=
  ⟨⟨_, e, ⟨rfl, rfl, rfl⟩, rfl⟩, rfl, List.Pairwise.nil, rfl, rfl, .inl (.inl rfl), (fun x hx => nomatch hx), List.nodup_nil, (fun p hp => nomatch hp), rfl, (by
    show w.params.followText "set-order" = true ∨ (!w.params.followText "set-order") = true
    cases w.params.followText "set-order" <;> simp), (by show 0 * 5 < 7 * 3; decide), by decide⟩
end
section
variable {P : Program} {w : World} {A : Around} {R : Result → Shared → Prop} {I : Addr} {fp wr : List Addr} {G : Array GenState → Array GenState → Prop} {n : Nat} {Pz : Nat → Value → Prop} {St : Nat → Shared → Prop}
theorem loopTups (W : WalksS P w A.in1 I fp wr G n Pz St) (S : Addr) (hSf : S ∉ fp) (ks : List (Addr × List Int)) (hn : n = ks.length) (hb : ks.length < 200) (nd : (ks.map (·.2)).Nodup) (hval : ∀ i v, Pz i v → ∃ p, ks[i]? = some p ∧ v = Value.ref p.1) (h0 : Heap) (ht : ∀ p ∈ ks, L2.IsT P w h0 p.2 p.1) (hS0 : h0.get? S = none) (hw0 : ∀ b ∈ wr, h0.get? b = none) (hu : A.in1.units < cLine) :
    ∀ (m i : Nat) (s : Shared), n - i = m → i ≤ n → St i s → (∀ b o, h0.get? b = some o → s.heap.get? b = some o) → (∃ L es ep t, SN P w s.heap S L es ep t ∧ L.Perm (ks.take i)) →
      (∀ s' L es ep t, Moved (S :: wr) G s s' → SN P w s'.heap S L es ep t → L.Perm ks → R (.ok (.ret .none)) s') →
      codeAny (model P w) A (.builtin "set.update.loop" ⟨[.ref S, .ref I], []⟩) R s := by
  have away : S ∉ wr := fun z => hSf (W.sub _ z)
  have wider : ∀ b ∈ wr, b ∈ S :: wr := fun b z => List.mem_cons_of_mem _ z
  have kept : ∀ {s s' : Shared}, (∀ b o, h0.get? b = some o → s.heap.get? b = some o) → Moved wr G s s' → ∀ b o, h0.get? b = some o → s'.heap.get? b = some o := fun {s s'} h mv b o e => by
    refine mv.heap b o (fun z => ?_) (h b o e)
    rw [hw0 b z] at e
    cases e
  intro m
  induction m with
  | zero =>
    intro i s em hi st hk ⟨L, es, ep, t, sn, pm⟩ fin
    have e : i = n := by omega
    subst e
    rw [hn, List.take_length] at pm
    refine codeAny_builtin PyProof.Rows.F.entry_set_update_loop ?_
    rw [Around.under_plainId PyProof.Rows.F.plain_set_update_loop]
    refine wpAny_bind (m := pyNext (.ref I)) (W.done s _ _ st fun s' mv => ?_)
    exact wpAny_pure (fin s' L es ep t (mv.mono wider) (sn.keep (fun o => mv.heap S o away) fun p hp => isT_keep (ht p (pm.mem_iff.mp hp)) (kept hk mv)) pm)
  | succ m ih =>
    intro i s em hi st hk ⟨L, es, ep, t, sn, pm⟩ fin
    have lt : i < n := by omega
    refine codeAny_builtin PyProof.Rows.F.entry_set_update_loop ?_
    rw [Around.under_plainId PyProof.Rows.F.plain_set_update_loop]
    refine wpAny_bind (m := pyNext (.ref I)) (W.item i s _ _ lt st fun v s1 hP st1 mv => ?_)
    obtain ⟨p, hp, rfl⟩ := hval i v hP
    have hk1 := kept hk mv
    have pin : p ∈ ks := List.mem_of_getElem? hp
    have tk := take_next hp
    have inKs : ∀ q ∈ L, q ∈ ks := fun q hq => List.mem_of_mem_take (pm.mem_iff.mp hq)
    have sn1 : SN P w s1.heap S L es ep t := sn.keep (fun o => mv.heap S o away) fun q hq => isT_keep (ht q (inKs q hq)) hk1
    have new : p.2 ∉ L.map (·.2) := fun z => by
      have z2 : p.2 ∈ (ks.take i).map (·.2) := (pm.map _).mem_iff.mp z
      have nd2 : ((ks.take (i + 1)).map (·.2)).Nodup := by
        rw [List.map_take]
        exact List.Sublist.nodup (List.take_sublist _ _) nd
      rw [tk, List.map_append, List.nodup_append] at nd2
      exact nd2.2.2 _ z2 _ List.mem_cons_self rfl
    have few : L.length ≤ i := by
      have := pm.length_eq
      have z := List.length_take_le i ks
      omega
    have hxp := isT_keep (ht p pin) hk1
    refine wpAny_bind (m := holding [Value.ref p.1] (setAdd S (.ref p.1))) (wpAny_holding ?_)
    unfold setAdd
    refine wpAny_holding (wpAny_bind (wpAny_pyHash_tuple hu hxp ?_))
    refine addN (s := { s1 with toks := s1.toks + (p.2.length + 1) }) sn1 hxp hu new (by omega) fun h' L' es' ep' t' same sn' pm' => ?_
    refine wpAny_pure ⟨plainId_quiet PyProof.Rows.F.plain_set_update_loop _, ih (i + 1) _ (by omega) lt (W.frame _ s1 _ _ st1 (Nat.le_add_right _ _) fun b hb o e => ?_) (fun b o e => ?_) ⟨L', es', ep', t', sn', ?_⟩ fun s3 L3 es3 ep3 t3 mv3 sn3 pm3 => ?_⟩
    · rw [same.2 b fun z => hSf (z ▸ hb)]
      exact e
    · have ne : b ≠ S := fun z => by rw [z, hS0] at e; cases e
      rw [same.2 b ne]
      exact hk1 b o e
    · rw [tk]
      exact (pm'.trans (pm.cons p)).trans (List.perm_append_comm (l₁ := [p]) (l₂ := ks.take i))
    · refine fin s3 L3 es3 ep3 t3 (Moved.trans W.gtrans ((mv.mono wider).then_heap (Nat.le_add_right _ _) fun b o hb e => ?_) mv3) sn3 pm3
      rw [same.2 b fun z => hb (z ▸ List.mem_cons_self)]
      exact e
end
section
variable {P : Program} {w : World} {A : Around} {E : Value → Shared → Prop} {s : Shared}
theorem callSetN {l : Addr} {items : Array Value} (ks : List (Addr × List Int)) {Q : Value → Shared → Prop} (hh : A.handled = none) (hl : s.heap.IsList l items) (hi : items.toList = ks.map fun p => Value.ref p.1) (ht : ∀ p ∈ ks, L2.IsT P w s.heap p.2 p.1) (hb : ks.length < 200) (nd : (ks.map (·.2)).Nodup) (hu : A.units + 3 < cLine)
    (h : ∀ (h' : Heap) (tk : Nat) (L : List (Addr × List Int)) (es : Array (Int × Value)) (ep : Nat) (t : SetTable), SN P w h' s.heap.objs.size L es ep t → L.Perm ks → (∀ b o, s.heap.get? b = some o → h'.get? b = some o) → Q (.ref s.heap.objs.size) { s with heap := h', toks := tk }) :
    wpAny (model P w) A (call (.type "set") [.ref l]) Q E s := by
  obtain ⟨cS, tlS, hmro⟩ := PySem.F.called_set.mro
  have made := PySem.F.called_set.made
  have sub := PySem.F.called_set.sub
  refine wpAny_call (codeAny_of_tree ?_)
  show wpAny _ _ (callAny (.type "set") _) _ _ _
  refine wpAny_pure ⟨Code.quiet_builtin _ (by decide +kernel), codeAny_builtin PySem.F.entry_type_call ?_⟩
  rw [Around.under_plain (weight_type_call_type "set" [.ref l] []) rfl]
  have n1 := PySem.F.called_set.notType
  have n2 := PySem.F.called_set.canCreate
  have n3 := PySem.F.typeCall_set_1 (.ref l)
  repeat (any_goals (first | assumption | wp_step))
  refine codeAny_mono (code_set_led1 (.ref l) (E := E) (Q₁ := fun obj s₁ => obj = .ref s.heap.objs.size ∧ s₁ = { s with heap := s.heap.push { cls := .type "set", data := .set #[] 0 (SetTable.fresh 0 0 !w.params.followText "set-order") } }) ⟨rfl, rfl⟩) fun r s1 hr => ?_
  cases r with
  | error e => exact hr
  | ok fl =>
    cases fl with
    | ret obj =>
      obtain ⟨rfl, rfl⟩ := hr
      have new : (s.heap.push { cls := .type "set", data := .set #[] 0 (SetTable.fresh 0 0 !w.params.followText "set-order") }).get? s.heap.objs.size = some { cls := .type "set", data := .set #[] 0 (SetTable.fresh 0 0 !w.params.followText "set-order") } := Heap.get?_push_size _ rfl
      have ty : Shared.TypeIs { s with heap := s.heap.push { cls := .type "set", data := .set #[] 0 (SetTable.fresh 0 0 !w.params.followText "set-order") } } (.ref s.heap.objs.size) "set" := ⟨_, new, rfl⟩
      have m1 := PySem.F.called_set.init.lookup
      have m2 := PySem.F.called_set.init.bind (.ref s.heap.objs.size)
      repeat (any_goals (first | assumption | wp_step))
      refine codeAny_mono (codeAny_call_builtin (R := wants (fun r s2 => r = .none ∧ ∃ h' tk L es ep t, s2 = { s with heap := h', toks := tk } ∧ SN P w h' s.heap.objs.size L es ep t ∧ L.Perm ks ∧ (∀ b o, s.heap.get? b = some o → h'.get? b = some o)) E) PySem.F.called_set.init.plain PySem.F.entry_set_init (check_set_init_1 ty ?_)) fun r2 s2 hr2 => ?_
      · have t1 := PySem.F.sub_list_set
        have t2 := PySem.F.sub_list_frozenset
        have t3 : (Value.type "list" == Value.type "dict") = false := by decide
        have hl2 := hl
        obtain ⟨ol, hl1, hlc, nl, hld⟩ := hl2
        obtain ⟨oc, od, odt, osl⟩ := ol
        simp only at hlc hld
        subst hlc hld
        have newl : (s.heap.push { cls := .type "set", data := .set #[] 0 (SetTable.fresh 0 0 !w.params.followText "set-order") }).get? l = some { cls := .type "list", dict := od, data := .seq items nl, slots := osl } := Heap.get?_push_of_some _ hl1
        have tyl : Shared.TypeIs { s with heap := s.heap.push { cls := .type "set", data := .set #[] 0 (SetTable.fresh 0 0 !w.params.followText "set-order") } } (.ref l) "list" := ⟨_, newl, rfl⟩
        unfold Builtin.«set.__init__» noKeywords Builtin.Frozenset.updateFrom
        generalize hPI : pyIter = PI
        wp_walk
        subst hPI
        have ll : l < s.heap.objs.size := Heap.lt_size hl1
        have len : items.size = ks.length := by
          rw [← Array.length_toList, hi, List.length_map]
        refine wpAny_pyIter_list (hl.push _) ?_
        refine wpAny_bind (wpAny_runValue ?_)
        refine loopTups ((Walks.list (by simp [hh]) _ l (by rw [Heap.size_push]; exact Nat.ne_of_lt (Nat.lt_succ_of_lt ll)) items).toS) s.heap.objs.size (by
            rw [Heap.size_push, List.mem_cons, List.mem_singleton]
            rintro (z | z)
            · exact absurd z (Nat.ne_of_lt (Nat.lt_succ_self _))
            · exact absurd z (Nat.ne_of_gt ll)) ks len hb nd (fun i v hv => ?_) s.heap ht ?_ (fun b hb => ?_) ?_ (items.size - 0) 0 _ rfl (Nat.zero_le _) ⟨?_, ?_⟩ (fun b o e => Heap.get?_push_of_some _ (Heap.get?_push_of_some _ e)) ⟨[], #[], 0, _, snFresh (Heap.get?_push_of_some _ new), by rw [List.take_zero]⟩ fun s' L es ep t mv sn pm => ?_
        · have hv2 : items.toList[i]? = some v := by rw [Array.getElem?_toList]; exact hv
          rw [hi, List.getElem?_map] at hv2
          obtain ⟨p, hp, rfl⟩ := Option.map_eq_some_iff.mp hv2
          exact ⟨p, hp, rfl⟩
        · cases e : s.heap.get? s.heap.objs.size with
          | none => rfl
          | some o => exact absurd (Heap.lt_size e) (Nat.lt_irrefl _)
        · rw [List.mem_singleton] at hb
          cases e : s.heap.get? b with
          | none => rfl
          | some o =>
            have := Heap.lt_size e
            rw [hb, Heap.size_push] at this
            exact absurd this (Nat.not_lt.mpr (Nat.le_succ _))
        · exact hu
        · exact ⟨_, Heap.get?_push_size _ rfl, rfl, rfl⟩
        · exact (hl.push _).push _
        · obtain ⟨h', g', d', tk', os'⟩ := s'
          have eg : g' = s.gens := mv.gens
          have ed : d' = s.drawn := mv.drawn
          have eo : os' = s.os := mv.os
          subst eg ed eo
          refine wpAny_pure (wpAny_pure ⟨rfl, h', tk', L, es, ep, t, rfl, sn, pm, fun b o e => mv.heap b o (fun z => ?_) (Heap.get?_push_of_some _ (Heap.get?_push_of_some _ e))⟩)
          have lt := Heap.lt_size e
          rw [Heap.size_push] at z
          rcases List.mem_cons.mp z with z | z
          · exact absurd lt (by rw [z]; exact Nat.lt_irrefl _)
          · rw [List.mem_singleton] at z
            exact absurd lt (by rw [z]; exact Nat.not_lt.mpr (Nat.le_succ _))
      · cases r2 with
        | error e => exact hr2
        | ok fl2 =>
          cases fl2 with
          | ret r =>
            obtain ⟨rfl, h', tk, L, es, ep, t, rfl, hS', pm, hk'⟩ := hr2
            repeat (any_goals (first | assumption | wp_step))
            exact h _ _ _ _ _ _ hS' pm hk'
          | _ => exact hr2.elim
    | _ => exact hr.elim
end
end Dt

/-! len(set(xs)) by data; a list walked while another grows. -/
namespace Dt
open PySem L2 Evl PyProof.Rows
def tLenSetT (K : PySem.W.Frag) (ta : TE) : TE := fun σ H Q => ta σ H fun x H1 => ∃ (l : Addr) (ks : List (Addr × List Int)), x = .ref l ∧ SqL K H1 l (ks.map fun p => V.ref p.1) ∧ (∀ p ∈ ks, SqT K H1 p.1 (p.2.map V.int)) ∧ ks.length < 200 ∧ (ks.map (·.2)).Nodup ∧ Q (.int ks.length) H1
theorem valsRefsT {ks : List (Addr × List Int)} : ∀ {us : List Value}, Vals (ks.map fun p => V.ref p.1) us → us = ks.map fun p => Value.ref p.1 := by
  induction ks with
  | nil => intro us h; cases h; rfl
  | cons p ks ih =>
    intro us h
    cases h with
    | cons r t =>
      rw [ih t]
      cases r
      rfl
theorem pe_lenSetT {X : Cx} {K : PySem.W.Frag} {a : Expr} {ta : TE} {p p2 q pos : Pos} (hg : Gl X "len") (hm : X.mg "len" = none) (hg2 : Gl X "set") (hm2 : X.mg "set" = none) (hu : X.A.units + 8 < cLine) (ha : PE X a ta) (hK : X.K = K := by rfl) (hc : X.calm = true := by rfl)
    (na : starEach [a] X.env = (false, eval a X.env) :: starEach [] X.env := by rfl) : PE X (.Call (.Name "len" p) [.Call (.Name "set" p2) [a] [] q] [] pos) (tLenSetT K ta) := by
  subst hK
  refine ⟨fun pins s σ H Q I h => Call_ (ld_blt I hg hm boot_len (callWith_builtin1 (args_cons ?_ rfl) rfl rfl))⟩
  refine Call_ (ld_blt I hg2 hm2 boot_set (callWith_type1 (args_cons (thn (ha.run pins s σ H _ I h) fun v s1 w => args_nil ?_) na) na rfl))
  obtain ⟨x, H1, I1, r1, l, ks, rfl, hs, ht, hb, nd, q1⟩ := w
  cases r1
  obtain ⟨its, hv, hl, hz⟩ := I1.list hs
  have hi := valsRefsT hv
  refine callSetN ks (I1.ok.hd hc) hl.isList hi (fun p hp => I1.isT (ht p hp)) hb nd (by omega) fun h' tk L es ep t sn pm hk => args_nil ?_
  obtain ⟨o, h1, h2, h3⟩ := sn.ob
  have I2 : Inv X pins σ H1 { s1 with heap := h', toks := tk } := I1.kept hk
  have sz : es.size = ks.length := by
    have := congrArg List.length sn.rows
    unfold rowsOf at this
    rw [Array.length_toList, List.length_map, pm.length_eq] at this
    exact this
  have sn2 : SN X.prog X.w ({ s1 with heap := h', toks := tk } : Shared).heap s1.heap.objs.size L es ep t := sn
  exact call_len_set h1 h2 h3 sn2.fits (by rw [sz]; omega) ⟨.int (ks.length : Nat), H1, I2.tok _, ⟨_, by rw [sz]⟩, q1⟩
theorem dpsSms {K : PySem.W.Frag} {H : Hp} : ∀ {L : List Sm} {xs : List V}, DpAll K H xs (L.map smD) → ∃ ks : List (Addr × List Int), xs = ks.map (fun p => V.ref p.1) ∧ (∀ p ∈ ks, SqT K H p.1 (p.2.map V.int)) ∧ ks.map (·.2) = L.map fun s => [(s.1 : Int), (s.2.1 : Int), (s.2.2 : Int)]
  | [], xs, h => by
    cases h
    exact ⟨[], rfl, (fun p hp => nomatch hp), rfl⟩
  | s :: L, xs, h => by
    cases h with
    | cons r t =>
      obtain ⟨ks, h1, h2, h3⟩ := dpsSms t
      obtain ⟨b, ys, rfl, g1, g2⟩ := dpTup r
      obtain ⟨x, y, z, rfl, k1, k2, k3⟩ := dps3 g2
      rw [dpInt k1, dpInt k2, dpInt k3] at g1
      refine ⟨(b, [(s.1 : Int), (s.2.1 : Int), (s.2.2 : Int)]) :: ks, by rw [h1]; rfl, fun p hp => ?_, by rw [List.map_cons, List.map_cons, h3]⟩
      rcases List.mem_cons.mp hp with rfl | hp
      · exact g1
      · exact h2 p hp
theorem edLenSetT {K : PySem.W.Frag} {σ : L2.St} {H : Hp} {ta : TE} {L : List Sm} (h : EvD K ta σ H (.list (L.map smD))) (nd : L.Nodup) (hl : L.length < 200) : EvD K (tLenSetT K ta) σ H (.int (L.length : Nat)) := edI fun H1 a Q q =>
  h H1 a _ fun v H2 b hv => by
    obtain ⟨l, xs, rfl, hs, hd⟩ := dpLst hv
    obtain ⟨ks, rfl, h2, h3⟩ := dpsSms hd
    have hlen : ks.length = L.length := by
      have := congrArg List.length h3
      rwa [List.length_map, List.length_map] at this
    refine ⟨l, ks, rfl, hs, h2, by omega, ?_, by rw [hlen]; exact q H2 b⟩
    rw [h3]
    refine List.pairwise_map.mpr (nd.imp fun {x y} ne e => ne ?_)
    obtain ⟨x1, x2, x3⟩ := x
    obtain ⟨y1, y2, y3⟩ := y
    simp only [List.cons.injEq, and_true] at e
    rw [Int.ofNat.inj e.1, Int.ofNat.inj e.2.1, Int.ofNat.inj e.2.2]
section
variable {K : PySem.W.Frag} {σ : L2.St} {H0 H H' : Hp} {te tl : TE} {p : Addr} {ds : List PyData} {d e : PyData} {D : Ends} {tz tu : TS} {g : TG}
theorem qForM {α : Type} (L : List α) (enc : α → PyData) (h : EvN K tl σ H (L.map enc)) (k : ∀ q xs H1, H q = none → Ex H H1 → H1 q = some (.lst xs) → DpAll K H1 xs (L.map enc) → ∃ Pv : Nat → L2.St → Hp → Prop, Pv 0 σ H1 ∧ (∀ i σ' H', Pv i σ' H' → H' q = some (.lst xs) ∧ DpAll K H' xs (L.map enc)) ∧
    (∀ i a, L[i]? = some a → ∀ σ1 H1 x, Pv i σ1 H1 → Dp K H1 x (enc a) → g x σ1 H1 fun σ2 H2 => tu { nx := Pv (i + 1), rt := D.rt, bk := tz D, ct := Pv (i + 1) } σ2 H2) ∧ (∀ σ1 H1, Pv L.length σ1 H1 → tz D σ1 H1)) : tSeq (tFor (iList K tl) g tu) tz D σ H := h H (Ex.refl H) _ fun q xs H1 hq e1 h1 hd => by
  obtain ⟨Pv, p0, pl, pb, pe⟩ := k q xs H1 hq e1 h1 hd
  refine ⟨q, rfl, ⟨xs, sq_of h1⟩, fun i m σ' H' => m = L.length - i ∧ i ≤ L.length ∧ Pv i σ' H', ⟨L.length, by omega, Nat.zero_le _, p0⟩, ?_⟩
  rintro i m σ1 H' ⟨rfl, hi, iv⟩
  obtain ⟨l1, l2⟩ := pl i σ1 H' iv
  obtain ⟨y1, y2⟩ := ylL (sq_of l1) l2 H' (Ex.refl _) i
  by_cases hlt : i < L.length
  · have hget : L[i]? = some L[i] := List.getElem?_eq_getElem hlt
    obtain ⟨go, yy⟩ := y1 (enc L[i]) (by rw [List.getElem?_map, hget]; rfl)
    refine .inr ⟨go, Pv (i + 1), fun σ' H2 w => ⟨L.length - (i + 1), by omega, rfl, hlt, w⟩, fun x H2 hy => ?_⟩
    obtain ⟨_, hx⟩ := yy x H2 hy
    obtain ⟨rfl, _⟩ := hy
    exact pb i L[i] hget σ1 _ x iv hx
  · have ei : i = L.length := by omega
    refine .inl ⟨y2 (by rw [List.getElem?_map, List.getElem?_eq_none (by omega)]; rfl), ?_⟩
    rw [ei] at iv
    exact pe σ1 H' iv
theorem sAppH {i : Nat} (g : Grow K H0 p ds H) (hi : σ[i]? = some (some (.ref p))) (h : EvD K te σ H d) (hn : noL d = true) (hz : ds.length < 100000) (k : ∀ H1, Grow K H0 p (ds ++ [d]) H1 → (∀ v e, noL e = true → Dp K H v e → Dp K H1 v e) → (∀ b o, b ≠ p → H b = some o → H1 b = some o) → D.nx σ H1) :
    tDrop (tBM K "list" rAppend (tVar i) (tCons te tNil)) D σ H := by
  obtain ⟨h1, h2, h3, xs, h4, h5⟩ := g
  refine ⟨.ref p, hi, .inl ⟨rfl, xs, sq_of h4⟩, h H (Ex.refl H) _ fun v H1 e hv => ?_⟩
  have h6 := e _ _ h4
  have h7 := dpsUp e h5
  refine ⟨p, xs, v, rfl, rfl, h6, sz_lt (by rw [dpsLen h7]; exact hz), k _ ⟨h1, (h2.trans e).mut h1, noLs_app h3 (by rw [noLs, hn]; rfl), _, upd_same, dpsSnoc (dpsTups (tupsMut h6) h7 h3) (dpTups (tupsMut h6) hv hn)⟩ (fun w f hf hw => dpTups (tupsMut h6) (dpUp e hw) hf) fun b o hb hbo => (upd_ne hb).trans (e _ _ hbo)⟩
end
end Dt

/-! The ends of the walks from full ones. -/
namespace Dt
open PySem L2 Evl PyProof.Rows
theorem ixs2Is (n : Nat) {a : Int} (ha : 0 ≤ a) : (ixs2 n a 5).Pairwise (· < ·) ∧ (∀ i ∈ ixs2 n a 5, a ≤ (i : Int)) ∧ (ixs2 n a 5).length ≤ (n + 4) / 5 := by
  unfold ixs2 sliceBounds sliceRange
  have e1 : (if (5 : Int) > 0 then max 0 (min (if a < 0 then a + (n : Int) else a) (n : Int)) else max (-1) (min (if a < 0 then a + (n : Int) else a) ((n : Int) - 1))) = min a n := by
    rw [if_pos (by decide), if_neg (by omega)]
    omega
  simp only [Option.getD, gt_iff_lt]
  rw [if_neg (show ¬ a < 0 by omega)]
  simp only [show (0 : Int) < 5 from by decide, if_true]
  have e2 : max 0 (min a (n : Int)) = min a n := by omega
  rw [e2]
  by_cases h : min a (n : Int) < n
  · rw [if_pos h]
    have e3 : min a (n : Int) = a := by omega
    rw [e3]
    refine ⟨?_, ?_, ?_⟩
    · rw [List.pairwise_map]
      refine List.Pairwise.imp (fun {x y} hxy => ?_) List.pairwise_lt_range
      omega
    · intro i hi
      obtain ⟨k, _, rfl⟩ := List.mem_map.mp hi
      omega
    · rw [List.length_map, List.length_range]
      omega
  · rw [if_neg h]
    exact ⟨List.Pairwise.nil, (fun i hi => nomatch hi), Nat.zero_le _⟩
theorem someNodup {α : Type} {L : List α} (nd : L.Nodup) {a : Int} (ha : 8 ≤ a) : (someOf L 8 a 5).Nodup := by
  obtain ⟨h1, h2, _⟩ := ixs2Is L.length (a := a) (by omega)
  unfold someOf
  rw [List.nodup_append]
  refine ⟨List.Sublist.nodup (List.take_sublist _ _) nd, ?_, fun x hx y hy => ?_⟩
  · unfold List.Nodup
    rw [List.pairwise_filterMap]
    refine h1.imp fun {i j} hij x hx y hy e => ?_
    subst e
    have hil := (List.getElem?_eq_some_iff.mp hx).1
    have := (List.getElem?_inj hil nd).mp (hx.trans hy.symm)
    omega
  · intro e
    subst e
    obtain ⟨i, hi, hx2⟩ := List.mem_filterMap.mp hy
    obtain ⟨j, hj⟩ := List.mem_iff_getElem?.mp hx
    rw [List.getElem?_take] at hj
    split at hj
    · have hil := (List.getElem?_eq_some_iff.mp hx2).1
      have := (List.getElem?_inj hil nd).mp (hx2.trans hj.symm)
      have := h2 i hi
      omega
    · cases hj
theorem someLen {α : Type} (L : List α) {a : Int} (ha : 0 ≤ a) : (someOf L 8 a 5).length ≤ 8 + (L.length + 4) / 5 := by
  obtain ⟨_, _, h3⟩ := ixs2Is L.length ha
  unfold someOf
  rw [List.length_append, List.length_take]
  have := List.length_filterMap_le (L[·]?) (ixs2 L.length a 5)
  omega
theorem smAllNodup (n : Nat) : (smAll n).Nodup := by
  unfold smAll List.Nodup
  rw [List.pairwise_flatMap]
  refine ⟨fun r _ => ?_, List.pairwise_lt_range.imp fun {r r'} h x hx y hy e => ?_⟩
  · unfold smRow
    rw [List.pairwise_flatMap]
    refine ⟨fun p _ => ?_, List.pairwise_lt_range.imp fun {p p'} h x hx y hy e => ?_⟩
    · unfold smAt
      split <;> simp
    · have hx1 : x.2.1 = p := by
        unfold smAt at hx
        split at hx <;> simp at hx
        · rcases hx with rfl | rfl <;> rfl
        · rw [hx]
      have hy1 : y.2.1 = p' := by
        unfold smAt at hy
        split at hy <;> simp at hy
        · rcases hy with rfl | rfl <;> rfl
        · rw [hy]
      rw [e] at hx1
      omega
  · have fst : ∀ {r : Nat} {x : Sm}, x ∈ smRow n r → x.1 = r := fun {r x} hx => by
      obtain ⟨p, _, hx⟩ := List.mem_flatMap.mp hx
      unfold smAt at hx
      split at hx <;> simp at hx
      · rcases hx with rfl | rfl <;> rfl
      · rw [hx]
    have h1 := fst hx
    have h2 := fst hy
    rw [e] at h1
    omega
theorem fullsNodup (n : Nat) (g : Nat → Nat → Nat) : (fullsOf n g).Nodup := List.Pairwise.filter _ (smAllNodup n)
theorem fullsLen (n : Nat) (g : Nat → Nat → Nat) : (fullsOf n g).length ≤ n * n * 2 := smLenLe (fullsNodup n g) fun x hx => smAll_is (List.mem_filter.mp hx).1
/-- where the walk from a full one ends -/
def EndR (n : Nat) (g : Nat → Nat → Nat) (s x : Sm) : Prop := ∃ t l e, Sg t ∧ isSm n s ∧ trn g s = -t ∧ Way n g t s l e ∧ ((∃ j, e = some j ∧ x = (j, 0, 2)) ∨ (e = none ∧ l.getLast? = some x))
theorem endInj {n : Nat} {g : Nat → Nat → Nat} {s s' x : Sm} (a : EndR n g s x) (b : EndR n g s' x) : s = s' := by
  obtain ⟨t, l, e, ht, hs, htr, w, h⟩ := a
  obtain ⟨t', l', e', ht', hs', htr', w', h'⟩ := b
  have same : ∀ y, l.getLast? = some y → l'.getLast? = some y → t = t' → s = s' := fun y h1 h2 h3 => by
    subst h3
    have b1 := way_back ht w (stpFull ht hs htr) h1
    have b2 := way_back ht w' (stpFull ht hs' htr') h2
    have e1 := (way_one b1 b2).1
    have e2 : l = l' := by rw [← List.reverse_reverse l, e1, List.reverse_reverse]
    have h4 := w.head
    rw [e2, w'.head] at h4
    exact (Option.some.inj h4).symm
  rcases h with ⟨j, rfl, rfl⟩ | ⟨rfl, hx⟩
  · rcases h' with ⟨j', rfl, e2⟩ | ⟨rfl, hx'⟩
    · have ej : j = j' := congrArg Prod.fst e2
      subst ej
      obtain ⟨y, hy, _⟩ := w.last
      obtain ⟨y', hy', _⟩ := w'.last
      obtain ⟨k, _, k2, _, _, _, k6⟩ := wayOut w hy
      obtain ⟨k', _, k2', _, _, _, k6'⟩ := wayOut w' hy'
      rw [k6] at k6'
      have ey : y = y' := congrArg Prod.fst k6'
      have ek' : k = k' := congrArg Prod.snd k6'
      subst ey ek'
      rw [k2] at k2'
      exact same y hy hy' (by omega)
    · have := smU (wayEnd w' hx').1
      simp at this
  · rcases h' with ⟨j', rfl, rfl⟩ | ⟨rfl, hx'⟩
    · have := smU (wayEnd w hx).1
      simp at this
    · have h1 := (fullEnd ht hs htr w hx).2
      have h2 := (fullEnd ht' hs' htr' w' hx').2
      exact same x hx hx' (h1.symm.trans h2)
theorem endsNodup {n : Nat} {g : Nat → Nat → Nat} : ∀ {L E : List Sm}, L.Nodup → Paired (EndR n g) L E → E.Nodup
  | _, _, _, .nil => List.nodup_nil
  | _, _, nd, .cons r t => by
    rw [List.nodup_cons] at nd
    rw [List.nodup_cons]
    refine ⟨fun h => nd.1 ?_, endsNodup nd.2 t⟩
    have : ∀ {L E : List Sm} {x : Sm}, Paired (EndR n g) L E → x ∈ E → ∃ s ∈ L, EndR n g s x := fun {L E x} p => by
      induction p with
      | nil => exact fun h => nomatch h
      | cons r t ih =>
        intro h
        rcases List.mem_cons.mp h with rfl | h
        · exact ⟨_, List.mem_cons_self, r⟩
        · obtain ⟨s, h1, h2⟩ := ih h
          exact ⟨s, List.mem_cons_of_mem _ h1, h2⟩
    obtain ⟨s, h1, h2⟩ := this t h
    rw [endInj r h2]
    exact h1
/-! as many full ones as doors, but for pairs -/
theorem parSum {n : Nat} {g : Nat → Nat → Nat} : ∀ l : List Sm, (∀ s ∈ l, isSm n s) → (((l.map (trn g)).sum - ((l.filter fun s => !decide (trn g s = 0)).length : Nat)) % 2 : Int) = 0
  | [], _ => rfl
  | s :: l, h => by
    have ih := parSum (g := g) l fun x hx => h x (List.mem_cons_of_mem _ hx)
    rw [List.map_cons, List.sum_cons, List.filter_cons]
    by_cases h0 : trn g s = 0
    · rw [if_neg (by rw [h0]; decide), h0, Int.zero_add]
      exact ih
    · obtain ⟨t, ht, htr⟩ := trnSg (h s List.mem_cons_self) h0
      rw [if_pos (by rw [decide_eq_false h0]; rfl), List.length_cons, htr]
      rcases ht with rfl | rfl <;> omega
theorem parDoors : ∀ l : List (Nat × Nat), ((((l.countP isAB : Nat) : Int) - (l.countP isBA : Nat) - ((l.filter fun s => isAB s || isBA s).length : Nat)) % 2 : Int) = 0
  | [] => rfl
  | s :: l => by
    have ih := parDoors l
    have ex : ¬ (isAB s = true ∧ isBA s = true) := fun ⟨a, b⟩ => by
      have a := of_decide_eq_true a
      have b := of_decide_eq_true b
      rw [a] at b
      exact absurd b (by decide)
    rw [List.countP_cons, List.countP_cons, List.filter_cons]
    cases h1 : isAB s <;> cases h2 : isBA s
    · simp; omega
    · simp; omega
    · simp; omega
    · exact absurd ⟨h1, h2⟩ ex
theorem doorsLen (l : List (Nat × Nat)) : (doorsOf l).length = (l.filter fun s => isAB s || isBA s).length := by
  have e : l = (List.range l.length).map fun i => l.getD i (0, 0) := by
    refine List.ext_getElem? fun i => ?_
    rw [List.getElem?_map]
    by_cases h : i < l.length
    · rw [List.getElem?_range h, List.getElem?_eq_getElem h]
      show _ = some (l.getD i (0, 0))
      rw [List.getD_eq_getElem?_getD, List.getElem?_eq_getElem h]
      rfl
    · rw [List.getElem?_eq_none (by omega), List.getElem?_eq_none (by rw [List.length_range]; omega)]
      rfl
  unfold doorsOf
  conv => rhs; rw [e]
  rw [List.filter_map, List.length_map]
  rfl
theorem parity {n : Nat} (g : Nat → Nat → Nat) (h : 2 ≤ n) : ((fullsOf n g).length : Int) % 2 = ((doorsOf (pairs (codes n g))).length : Int) % 2 := by
  have h1 := parSum (g := g) (smAll n) fun s hs => smAll_is hs
  have h2 := parDoors (pairs (codes n g))
  rw [← aroundTurns g h] at h1
  rw [doorsLen]
  unfold aroundOf at h1
  unfold fullsOf
  omega
end Dt
namespace Dt
open PySem L2 Evl PyProof.Rows
def SpTri4 (K : PySem.W.Frag) : Sp := fun vs H Q _ => ∃ ns : List Int, DpAll K H vs [.list (ns.map .int)] ∧ ns.length ≤ 63 ∧
  ∀ n g p xs H', n ≤ 22 → Tri n g → H p = none → Ex H H' → H' p = some (.lst xs) → DpAll K H' xs (triD n g) → Q (.ref p) H'
end Dt
namespace Dt
open PySem L2 Evl PyProof.Rows
theorem dpsKeep {K : PySem.W.Frag} {H H1 : Hp} (k : ∀ v e, noL e = true → Dp K H v e → Dp K H1 v e) : ∀ {xs : List V} {ds : List PyData}, DpAll K H xs ds → noLs ds = true → DpAll K H1 xs ds
  | _, _, .nil, _ => .nil
  | _, _, .cons r t, h => by
    rw [noLs, Bool.and_eq_true] at h
    exact .cons (k _ _ h.1 r) (dpsKeep k t h.2)
end Dt

/-! Whole numbers told. -/
namespace Dt
open PySem L2 Evl PyProof.Rows
def numOf (c a w : Int) : Int := if (10 : Int) ^ (18 : Int).toNat ≤ c then c / (1 + a % 7) else
  ((c + 977 * a) * 48271 + w) % 2147483647 * (c + 31 * a + 7) * (((c + 977 * a) * 48271 + w) % 2147483647 + c + 5) * (((c + 977 * a) * 48271 + w) % 2147483647 * (((c + 977 * a) * 48271 + w) % 2147483647) + 11) / (1009 + a)
def P__law_number : List PyData → PyData → Prop := fun ds d => ∃ c a w : Int, 0 ≤ c ∧ 0 ≤ a ∧ a ≤ 1000 ∧ w = 7 ∧ ds = [.int c, .int a, .int w] ∧ d = .int (numOf c a w)
def P__law_truths : List PyData → PyData → Prop := fun ds d => ∃ bs : List Bool, bs.length ≤ 100000 ∧ ds = [.list (bs.map .bool)] ∧ d = .bool true
/-- plain, within so many lists -/
def Pl : Nat → PyData → Prop
  | 0, d => d = .none ∨ (∃ s, d = .str s) ∨ ∃ i, d = .int i
  | m + 1, d => (d = .none ∨ (∃ s, d = .str s) ∨ ∃ i, d = .int i) ∨ ∃ ds, (d = .list ds ∨ d = .tuple ds) ∧ ds.length ≤ 100000 ∧ ∀ x ∈ ds, Pl m x
def PlP (m : Nat) : List PyData → PyData → Prop := fun ds d => ∃ x, Pl m x ∧ ds = [x] ∧ d = .bool true
def PlS (K : PySem.W.Frag) : Nat → Sp
  | 0 => fun _ _ _ _ => False
  | m + 1 => PrD K (PlP m)
def P__law_plain : List PyData → PyData → Prop := PlP 3
def P__law_triangle_right : List PyData → PyData → Prop := fun ds d => ∃ n g, Tri n g ∧ n ≤ 30 ∧ ds = [.list (triD n g)] ∧ d = .bool true
def P__law_promises_right : List PyData → PyData → Prop := fun ds d => ds = [] ∧ d = .bool true
end Dt
namespace Dt
open PySem L2 Evl PyProof.Rows
theorem kSL : kitB "str" "list" = some false := by decide +kernel
theorem kST : kitB "str" "tuple" = some false := by decide +kernel
theorem kIL : kitB "int" "list" = some false := by decide +kernel
theorem kIT : kitB "int" "tuple" = some false := by decide +kernel
theorem kIS : kitB "int" "str" = some false := by decide +kernel
theorem kTL : kitB "tuple" "list" = some false := by decide +kernel
end Dt

/-! Lists of answers. -/
namespace Dt
open PySem L2 Evl PyProof.Rows
def AnL (c : Kls) (K : PySem.W.Frag) (H : Hp) (xs : List V) (as : List Ans) : Prop := Paired (fun v a => ∃ x H0, v = V.ref x ∧ AnsN c K H0 H x a) xs as
theorem AnL.up {c : Kls} {K : PySem.W.Frag} {H H' : Hp} {xs : List V} {as : List Ans} (h : AnL c K H xs as) (e : Ex H H') : AnL c K H' xs as := pairedMono (fun v a ⟨x, H0, h1, h2⟩ => ⟨x, H0, h1, h2.up e⟩) h
def EvAL (c : Kls) (K : PySem.W.Frag) (te : TE) (σ : L2.St) (H : Hp) (as : List Ans) : Prop := ∀ H1, Ex H H1 → ∀ Q : VK, (∀ p xs H2, H1 p = none → Ex H1 H2 → H2 p = some (.lst xs) → AnL c K H2 xs as → Q (.ref p) H2) → te σ H1 Q
theorem pairedAt {α β : Type} {F : α → β → Prop} : ∀ {xs : List α} {ys : List β}, Paired F xs ys → ∀ {i : Nat} {y : β}, ys[i]? = some y → ∃ x, xs[i]? = some x ∧ F x y
  | _, _, .nil, i, y, h => by simp at h
  | _, _, .cons r t, 0, y, h => by cases h; exact ⟨_, rfl, r⟩
  | _, _, .cons r t, i + 1, y, h => pairedAt t (by simpa using h)
theorem pairedApp {α β : Type} {F : α → β → Prop} : ∀ {xs : List α} {ys : List β} {us : List α} {vs : List β}, Paired F xs ys → Paired F us vs → Paired F (xs ++ us) (ys ++ vs)
  | _, _, _, _, .nil, h => h
  | _, _, _, _, .cons r t, h => .cons r (pairedApp t h)
section
variable {c : Kls} {K : PySem.W.Frag} {σ : L2.St} {H H' : Hp} {te tl ta tb : TE} {wi : TI} {g : TG} {D : Ends} {tz tu : TS} {as bs : List Ans} {a b : Ans}
theorem yesT {H : Hp} : EvT tYes σ H true := fun H2 _ _ q => q H2 (Ex.refl H2)
def NoLA (a : Ans) : Prop := ∀ l, (a = .ended l ∨ ∃ d, a = .out l d) → noLs l = true
theorem ealLc {α : Type} (L : List α) (enc : α → PyData) (f : α → Ans) {vs : List Nat} (h : IdD K wi σ H (L.map enc)) (hz : L.length ≤ 100000) (hn : ∀ a ∈ L, NoLA (f a))
    (hb : ∀ a ∈ L, ∀ H1 x, Ex H H1 → Dp K H1 x (enc a) → ∃ σ2, (∀ Q : L2.St → Hp → Prop, Q σ2 H1 → g x (wipe σ vs) H1 Q) ∧ wipe σ2 vs = wipe σ vs ∧ EvAn c K te σ2 H1 (f a)) :
    EvAL c K (tLc wi g tYes te vs) σ H (L.map f) := fun H1 e Q q => h H1 e _ fun J H2 e2 yl => by
  intro D hD
  refine ⟨fun i m H' => m = L.length - i ∧ i ≤ L.length ∧ Ex H2 H' ∧ ∃ acc, H' D = some (.lst acc) ∧ acc.length ≤ i ∧ Paired (fun v a => ∃ x H0, v = V.ref x ∧ H0 D ≠ none ∧ NoLA a ∧ AnsN c K H0 H' x a) acc ((L.take i).map f), ⟨L.length, by omega, Nat.zero_le _, Ex.new hD, [], upd_same, Nat.le_refl _, .nil⟩, ?_⟩
  rintro i m H' ⟨rfl, hi, ex, acc, hacc, hl, hd⟩
  obtain ⟨y1, y2⟩ := yl H' ex i
  by_cases hlt : i < L.length
  · have hget : L[i]? = some L[i] := List.getElem?_eq_getElem hlt
    have hm : L[i] ∈ L := List.getElem_mem hlt
    have tk : L.take (i + 1) = L.take i ++ [L[i]] := by rw [List.take_add_one, hget]; rfl
    obtain ⟨go, yy⟩ := y1 (enc L[i]) (by rw [List.getElem?_map, hget]; rfl)
    refine .inr ⟨go, _, fun H3 w => ⟨L.length - (i + 1), by omega, w⟩, fun x H3 hy => ?_⟩
    obtain ⟨ex3, hx⟩ := yy x H3 hy
    obtain ⟨σ2, hg, hw, he⟩ := hb L[i] hm H3 x (((e.trans e2).trans ex).trans ex3) hx
    refine hg _ ⟨hw, yesT H3 (Ex.refl _) _ fun H4 ex4 => ?_⟩
    refine he H4 ex4 _ fun y H5 hy ex5 an5 => ?_
    have hacc4 : H4 D = some (.lst acc) := ex4 _ _ (ex3 _ _ hacc)
    have hacc5 : H5 D = some (.lst acc) := ex5 _ _ hacc4
    refine ⟨acc, hacc5, sz_lt (show acc.length < 100000 by omega), rfl, hlt, (((ex.trans ex3).trans ex4).trans ex5).mut hD, acc ++ [.ref y], upd_same, by rw [List.length_append, List.length_singleton]; omega, ?_⟩
    rw [tk, List.map_append]
    exact (pairedMono (fun v a ⟨x, H0, k1, k2, k3, k4⟩ => ⟨x, H0, k1, k2, k3, (k4.up ((ex3.trans ex4).trans ex5)).mut hacc5 k2 k3⟩) hd).snoc ⟨y, H4, rfl, (by rw [hacc4]; exact fun z => nomatch z), hn _ hm, an5.mut hacc5 (by rw [hacc4]; exact fun z => nomatch z) (hn _ hm)⟩
  · have ei : i = L.length := by omega
    refine .inl ⟨y2 (by rw [List.getElem?_map, List.getElem?_eq_none (by omega)]; rfl), ?_⟩
    rw [ei, List.take_length] at hd
    exact q D acc H' (fresh_back e2 hD) (e2.trans ex) hacc (pairedMono (fun v a ⟨x, H0, k1, _, _, k4⟩ => ⟨x, H0, k1, k4⟩) hd)
theorem ealCatV {i : Nat} {p : Addr} {xs : List V} (hi : σ[i]? = some (some (.ref p))) (h1 : H p = some (.lst xs)) (hd : AnL c K H xs as) (hb : EvAL c K tb σ H bs) (hl : as.length + bs.length ≤ 100000) : EvAL c K (tOp rCat (tVar i) tb) σ H (as ++ bs) := fun H1 a _ q =>
  ⟨_, hi, hb H1 a _ fun p' ys H3 hp' c1 h3 he => ⟨p, p', xs, ys, rfl, rfl, c1 p _ (a p _ h1), h3, sz_of (by rw [Paired.length hd, Paired.length he]; exact hl), fun l hlz => q l _ _ (fresh_back c1 hlz) (c1.trans (Ex.new hlz)) upd_same (pairedApp (hd.up ((a.trans c1).trans (Ex.new hlz))) (he.up (Ex.new hlz)))⟩⟩
theorem enLcR (vd : Ans → PyData) {vs : List Nat} (h : EvAL c K tl σ H as) (hz : as.length ≤ 100000) (hn : ∀ a ∈ as, noL (vd a) = true)
    (hb : ∀ a ∈ as, ∀ H1 x H0, Ex H H1 → AnsN c K H0 H1 x a → ∃ σ2, (∀ Q : L2.St → Hp → Prop, Q σ2 H1 → g (.ref x) (wipe σ vs) H1 Q) ∧ wipe σ2 vs = wipe σ vs ∧ EvD K te σ2 H1 (vd a)) :
    EvN K (tLc (iList K tl) g tYes te vs) σ H (as.map vd) := fun H1 e Q q => h H1 e _ fun p xs H2 hp e2 h2 hal => ⟨p, rfl, ⟨xs, sq_of h2⟩, by
  intro D hD
  refine ⟨fun i m H' => m = as.length - i ∧ i ≤ as.length ∧ Ex H2 H' ∧ ∃ acc, H' D = some (.lst acc) ∧ DpAll K H' acc ((as.take i).map vd), ⟨as.length, by omega, Nat.zero_le _, Ex.new hD, [], upd_same, .nil⟩, ?_⟩
  rintro i m H' ⟨rfl, hi, ex, acc, hacc, hd⟩
  by_cases hlt : i < as.length
  · have hget : as[i]? = some as[i] := List.getElem?_eq_getElem hlt
    have hm : as[i] ∈ as := List.getElem_mem hlt
    have tk : as.take (i + 1) = as.take i ++ [as[i]] := by rw [List.take_add_one, hget]; rfl
    obtain ⟨v, hv, x, H0, rfl, han⟩ := pairedAt (hal.up ex) hget
    refine .inr ⟨⟨xs, _, sq_of (ex _ _ h2), hv⟩, _, fun H3 w => ⟨as.length - (i + 1), by omega, w⟩, fun x' H3 hy => ?_⟩
    obtain ⟨rfl, hy⟩ := hy
    have e1 := (hy xs (sq_of (ex _ _ h2))).symm.trans hv
    cases e1
    obtain ⟨σ2, hg, hw, he⟩ := hb as[i] hm H3 x H0 ((e.trans e2).trans ex) han
    refine hg _ ⟨hw, yesT H3 (Ex.refl _) _ fun H4 ex4 => ?_⟩
    refine he H4 ex4 _ fun y H5 ex5 hy5 => ?_
    have hacc5 : H5 D = some (.lst acc) := ex5 _ _ (ex4 _ _ hacc)
    have hd5 := dpsUp (ex4.trans ex5) hd
    refine ⟨acc, hacc5, sz_lt (show acc.length < 100000 by have := dpsLen hd; rw [List.length_map, List.length_take] at this; omega), rfl, hlt, ((ex.trans ex4).trans ex5).mut hD, acc ++ [y], upd_same, ?_⟩
    rw [tk, List.map_append]
    exact dpsSnoc (dpsTups (tupsMut hacc5) hd5 (noLs_map fun a ha => hn a (List.mem_of_mem_take ha))) (dpTups (tupsMut hacc5) hy5 (hn _ hm))
  · have ei : i = as.length := by omega
    refine .inl ⟨⟨xs, sq_of (ex _ _ h2), by rw [Paired.length hal]; omega⟩, ?_⟩
    rw [ei, List.take_length] at hd
    exact q D acc H' (fresh_back e2 hD) (e2.trans ex) hacc hd⟩
theorem qForA (h : EvAL c K tl σ H as) (k : ∀ H1, Ex H H1 → ∃ Pv : Nat → L2.St → Hp → Prop, Pv 0 σ H1 ∧ (∀ i σ' H', Pv i σ' H' → Ex H1 H') ∧
    (∀ i a, as[i]? = some a → ∀ σ1 H2 x H0, Pv i σ1 H2 → AnsN c K H0 H2 x a → g (.ref x) σ1 H2 fun σ2 H3 => tu { nx := Pv (i + 1), rt := D.rt, bk := tz D, ct := Pv (i + 1) } σ2 H3) ∧ (∀ σ1 H2, Pv as.length σ1 H2 → tz D σ1 H2)) : tSeq (tFor (iList K tl) g tu) tz D σ H := h H (Ex.refl H) _ fun p xs H1 hp e1 h1 hal => by
  obtain ⟨Pv, p0, pl, pb, pe⟩ := k H1 e1
  refine ⟨p, rfl, ⟨xs, sq_of h1⟩, fun i m σ' H' => m = as.length - i ∧ i ≤ as.length ∧ Pv i σ' H', ⟨as.length, by omega, Nat.zero_le _, p0⟩, ?_⟩
  rintro i m σ1 H' ⟨rfl, hi, iv⟩
  have ex := pl i σ1 H' iv
  by_cases hlt : i < as.length
  · have hget : as[i]? = some as[i] := List.getElem?_eq_getElem hlt
    obtain ⟨v, hv, x, H0, rfl, han⟩ := pairedAt (hal.up ex) hget
    refine .inr ⟨⟨xs, _, sq_of (ex _ _ h1), hv⟩, Pv (i + 1), fun σ' H2 w => ⟨as.length - (i + 1), by omega, rfl, hlt, w⟩, fun x' H2 hy => ?_⟩
    obtain ⟨rfl, hy⟩ := hy
    have e2 := (hy xs (sq_of (ex _ _ h1))).symm.trans hv
    cases e2
    exact pb i as[i] hget σ1 _ x H0 iv han
  · have ei : i = as.length := by omega
    refine .inl ⟨⟨xs, sq_of (ex _ _ h1), by rw [Paired.length hal]; omega⟩, ?_⟩
    rw [ei] at iv
    exact pe σ1 H' iv
end
end Dt
namespace Dt
open PySem L2 Evl PyProof.Rows
section
variable {c : Kls} {K : PySem.W.Frag} {σ : L2.St} {H H' : Hp} {te ta tb t2 t3 : TE} {t : TT} {D : Ends} {tz : TS} {a b d : Ans} {ds es : List PyData}
theorem qParNA {i j : Nat} (ha : EvN K ta σ H ds) (hb : EvAn c K tb σ H a) (k : ∀ p xs x H1, Ex H H1 → H1 p = some (.lst xs) → DpAll K H1 xs ds → AnsN c K H H1 x a → tz D ((σ.set i (some (.ref p))).set j (some (.ref x))) H1) : tSeq (tPar i j (tCons ta (tCons tb tNil))) tz D σ H :=
  ha H (Ex.refl H) _ fun p xs H1 hp e1 h1 d1 => hb H1 e1 _ fun x H2 hx e2 an => ⟨_, _, rfl, k p xs x H2 (e1.trans e2) (e2 _ _ h1) (dpsUp e2 d1) (an.back e1)⟩
theorem qCatX {i j : Nat} {p : Addr} {xs : List V} (hi : σ[i]? = some (some (.ref p))) (h1 : H p = some (.lst xs)) (hd : DpAll K H xs ds) (hb : EvN K tb σ H es) (hl : ds.length + es.length ≤ 100000) (k : ∀ l ys Hb H1, Ex H Hb → Hb l = none → Ex Hb H1 → H1 l = some (.lst ys) → DpAll K Hb ys (ds ++ es) → tz D (σ.set j (some (.ref l))) H1) : tSeq (tAsg (tOp rCat (tVar i) tb) (gName j)) tz D σ H :=
  ⟨_, hi, hb H (Ex.refl H) _ fun p' ys H3 hp' c1 h3 he => ⟨p, p', xs, ys, rfl, rfl, c1 p _ h1, h3, sz_of (by rw [dpsLen hd, dpsLen he]; exact hl), fun l hlz => k l (xs ++ ys) H3 _ c1 hlz (Ex.new hlz) upd_same (dpsApp (dpsUp c1 hd) he)⟩⟩
theorem qIfAppI {b : Bool} {i : Nat} {l : Addr} {xs : List V} {n : Int} (h : EvT t σ H b) (hi : σ[i]? = some (some (.ref l))) (hl : H l = some (.lst xs)) (hz : xs.length < 100000) (he : b = true → ∀ H1, Ex H H1 → EvD K te σ H1 (.int n)) (k : ∀ H1 ys, (∃ H0, Ex H H0 ∧ ((H1 = H0 ∧ ys = []) ∨ (H1 = upd H0 l (.lst (xs ++ ys)) ∧ ys = [V.int n]))) → tz D σ H1) :
    tSeq (tIfS t (tDrop (tBM K "list" rAppend (tVar i) (tCons te tNil))) tNext) tz D σ H :=
  q_when h (fun hb H1 e1 => ⟨.ref l, hi, .inl ⟨rfl, xs, sq_of (e1 _ _ hl)⟩, he hb H1 e1 H1 (Ex.refl H1) _ fun v H2 e2 hv => by
    have hv := dpInt hv
    subst hv
    exact ⟨l, xs, .int n, rfl, rfl, (e1.trans e2) _ _ hl, sz_lt hz, k _ [.int n] ⟨H2, e1.trans e2, .inr ⟨rfl, rfl⟩⟩⟩⟩) fun _ H1 e1 => k H1 [] ⟨H1, e1, .inl ⟨rfl, rfl⟩⟩
theorem ealLst3 {i : Nat} {x : Addr} {H0 : Hp} (h1 : σ[i]? = some (some (.ref x))) (an : AnsN c K H0 H x a) (h2 : EvAn c K t2 σ H b) (h3 : EvAn c K t3 σ H d) : EvAL c K (tLst (tCons (tVar i) (tCons t2 (tCons t3 tNil)))) σ H [a, b, d] := fun H1 e Q q =>
  ⟨.ref x, h1, h2 H1 e _ fun y H2 hy e2 an2 => h3 H2 (e.trans e2) _ fun z H3 hz e3 an3 => ⟨by show 3 ≤ sizeLine; decide, fun p hp => q p _ _ (fresh_back (e2.trans e3) hp) ((e2.trans e3).trans (Ex.new hp)) upd_same (.cons ⟨x, H0, rfl, an.up (((e.trans e2).trans e3).trans (Ex.new hp))⟩ (.cons ⟨y, H1, rfl, an2.up (e3.trans (Ex.new hp))⟩ (.cons ⟨z, H2, rfl, an3.up (Ex.new hp)⟩ .nil)))⟩⟩
end
end Dt
namespace Dt
open PySem L2 Evl PyProof.Rows
section
variable {c : Kls} {K : PySem.W.Frag} {σ : L2.St} {H H' : Hp} {te ta tb : TE} {t : TT} {D : Ends} {tz : TS} {as : List Ans} {ds : List PyData}
theorem qAsgL {i : Nat} (h : EvAL c K te σ H as) (k : ∀ p xs H1, H p = none → Ex H H1 → H1 p = some (.lst xs) → AnL c K H1 xs as → tz D (σ.set i (some (.ref p))) H1) : tSeq (tAsg te (gName i)) tz D σ H := h H (Ex.refl H) _ k
end
theorem plInt (m : Nat) (i : Int) : Pl m (.int i) := by
  cases m with
  | zero => exact .inr (.inr ⟨i, rfl⟩)
  | succ m => exact .inl (.inr (.inr ⟨i, rfl⟩))
theorem plSm (m : Nat) (s : Sm) : Pl (m + 1) (smD s) := .inr ⟨_, .inr rfl, by simp, fun x hx => by
  simp at hx
  rcases hx with rfl | rfl | rfl <;> exact plInt _ _⟩
theorem plSms (l : List Sm) (h : l.length ≤ 100000) : Pl 2 (.list (l.map smD)) := .inr ⟨_, .inl rfl, by rw [List.length_map]; exact h, fun x hx => by
  obtain ⟨s, _, rfl⟩ := List.mem_map.mp hx
  exact plSm 0 s⟩
theorem plNats (l : List Nat) (h : l.length ≤ 100000) : Pl 2 (.list (l.map fun i => .int (i : Nat))) := .inr ⟨_, .inl rfl, by rw [List.length_map]; exact h, fun x hx => by
  obtain ⟨s, _, rfl⟩ := List.mem_map.mp hx
  exact plInt 1 _⟩
theorem doorsLe (n : Nat) (g : Nat → Nat → Nat) : (doorsOf (pairs (codes n g))).length ≤ (n - 1) + (n - 1) + (n - 1) := by
  rw [doorsLen]
  have h := List.length_filter_le (fun s => isAB s || isBA s) (pairs (codes n g))
  rw [← stepsPairs n g] at h ⊢
  rw [List.length_map, stepsLen] at h
  exact h
theorem walkEx {n : Nat} {g : Nat → Nat → Nat} (tri : Tri n g) (i : Nat) : ∃ p : List Sm × Option Nat, i ∈ doorsOf (pairs (codes n g)) → Q_walk [.list (triD n g), .int (i : Nat)] (ansOf p.1 p.2) ∧ p.1.length ≤ 20000 := by
  by_cases hin : i ∈ doorsOf (pairs (codes n g))
  · obtain ⟨hi, hek0⟩ := doorsIff.mp hin
    obtain ⟨s1, s2, s3, s4⟩ := sideOk tri.lo hi
    obtain ⟨t, ht, hek⟩ : ∃ t, Sg t ∧ ek g (sideE n i).1 (sideE n i).2 = t := by
      have is := egIs (at2 g (cor (sideE n i).1 (sideE n i).2)) (at2 g (cor (sideE n i).1 (nx3 (sideE n i).2)))
      have is : ek g (sideE n i).1 (sideE n i).2 = 1 ∨ ek g (sideE n i).1 (sideE n i).2 = -1 ∨ ek g (sideE n i).1 (sideE n i).2 = 0 := is
      rcases is with h | h | h
      · exact ⟨1, .inl rfl, h⟩
      · exact ⟨-1, .inr rfl, h⟩
      · exact absurd h hek0
    have h0 := stpDoor ht s2 hek s3
    obtain ⟨l, e, hw⟩ := way_ex ht s1 h0
    exact ⟨(l, e), fun _ => ⟨⟨n, g, i, t, l, e, tri, ht, hi, hek, hw, rfl, rfl⟩, wayLen ht s1 h0 hw tri.hi⟩⟩
  · exact ⟨([], none), fun h => absurd h hin⟩
theorem walkOutEx {n : Nat} {g : Nat → Nat → Nat} (tri : Tri n g) (s : Sm) : ∃ p : List Sm × Option Nat, s ∈ fullsOf n g → Q_walk_out [.list (triD n g), smD s] (ansOf p.1 p.2) ∧ p.1.length ≤ 20000 := by
  by_cases hin : s ∈ fullsOf n g
  · obtain ⟨hm1, hm2⟩ := List.mem_filter.mp hin
    have hs := smAll_is hm1
    have htr0 : trn g s ≠ 0 := fun z => by rw [z] at hm2; cases hm2
    obtain ⟨t, ht, htr⟩ := trnSg hs htr0
    have h0 := stpFull ht hs htr
    obtain ⟨l, e, hw⟩ := way_ex ht hs h0
    exact ⟨(l, e), fun _ => ⟨⟨n, g, s, t, l, e, tri, ht, hs, htr, hw, rfl, rfl⟩, wayLen ht hs h0 hw tri.hi⟩⟩
  · exact ⟨([], none), fun h => absurd h hin⟩
theorem noLAns (l : List Sm) (e : Option Nat) : NoLA (ansOf l e) := fun l' h => by
  cases e with
  | none =>
    rcases h with h | ⟨_, h⟩
    · cases h; exact smDs_noL _
    · cases h
  | some j =>
    rcases h with h | ⟨_, h⟩
    · cases h
    · cases h; exact smDs_noL _
end Dt
namespace Dt
open PySem L2 Evl PyProof.Rows
theorem kitFst {K : PySem.W.Frag} {u a b : Value} (h1 : PySem.W.kitOne K u a = some true) : PySem.W.kitAny K u [a, b] = some true := by
  unfold PySem.W.kitAny
  simp [h1]
theorem kitSnd {K : PySem.W.Frag} {u a b : Value} (h1 : PySem.W.kitOne K u a = some false) (h2 : PySem.W.kitOne K u b = some true) : PySem.W.kitAny K u [a, b] = some true := by
  unfold PySem.W.kitAny
  simp [h1]
  unfold PySem.W.kitAny
  simp [h2]
end Dt

/-! Triangles by hand. -/
namespace Dt
open PySem L2 Evl PyProof.Rows
def g3 : Nat → Nat → Nat := gOf' [[97, 98, 98], [97, 99], [99]]
def gF : Nat → Nat → Nat := gOf' [[97, 97], [97]]
def gG : Nat → Nat → Nat := gOf' [[97, 97], [98]]
def gH : Nat → Nat → Nat := gOf' [[97, 99], [99]]
def gI : Nat → Nat → Nat := gOf' [[97, 98], [98]]
def gJ : Nat → Nat → Nat := gOf' [[97, 99, 98], [97, 99], [97]]
theorem tri3 : Tri 3 g3 := ⟨by decide, by decide, gOfOk _⟩
theorem triF : Tri 2 gF := ⟨by decide, by decide, gOfOk _⟩
theorem triG : Tri 2 gG := ⟨by decide, by decide, gOfOk _⟩
theorem triH : Tri 2 gH := ⟨by decide, by decide, gOfOk _⟩
theorem triI : Tri 2 gI := ⟨by decide, by decide, gOfOk _⟩
theorem triJ : Tri 3 gJ := ⟨by decide, by decide, gOfOk _⟩
theorem d2 {x y : Str} {g : Nat → Nat → Nat} (e : (x, y) = (rowS 2 g 0, rowS 2 g 1)) : [PyData.str x, .str y] = triD 2 g := by
  show _ = [PyData.str (rowS 2 g 0), .str (rowS 2 g 1)]
  have e1 := congrArg Prod.fst e
  have e2 := congrArg Prod.snd e
  simp only at e1 e2
  rw [e1, e2]
theorem d3 {x y z : Str} {g : Nat → Nat → Nat} (e : (x, y, z) = (rowS 3 g 0, rowS 3 g 1, rowS 3 g 2)) : [PyData.str x, .str y, .str z] = triD 3 g := by
  show _ = [PyData.str (rowS 3 g 0), .str (rowS 3 g 1), .str (rowS 3 g 2)]
  have e1 := congrArg Prod.fst e
  have e2 := congrArg (fun p => p.2.1) e
  have e3 := congrArg (fun p => p.2.2) e
  simp only at e1 e2 e3
  rw [e1, e2, e3]
theorem dT3 : [PyData.str "abb", .str "ac", .str "c"] = triD 3 g3 := d3 (by decide +kernel)
theorem dF : [PyData.str "aa", .str "a"] = triD 2 gF := d2 (by decide +kernel)
theorem dG : [PyData.str "aa", .str "b"] = triD 2 gG := d2 (by decide +kernel)
theorem dH : [PyData.str "ac", .str "c"] = triD 2 gH := d2 (by decide +kernel)
theorem dI : [PyData.str "ab", .str "b"] = triD 2 gI := d2 (by decide +kernel)
theorem dJ : [PyData.str "acb", .str "ac", .str "a"] = triD 3 gJ := d3 (by decide +kernel)
theorem dP1 : [PyData.str "ab", .str "a"] = triD 2 (putG gA 1 0 97) := d2 (by decide +kernel)
theorem dP2 : [PyData.str "aba", .str "ac", .str "c"] = triD 3 (putG g3 0 2 97) := d3 (by decide +kernel)
theorem dP3 : triD 2 gA = triD 2 (putG gA 0 0 97) := dA.symm.trans (d2 (by decide +kernel))
theorem f3 : fullsOf 3 g3 = [(0, 0, 0)] := by decide +kernel
theorem fF : fullsOf 2 gF = [] := by decide +kernel
theorem aA : aroundOf (pairs (codes 2 gA)) = 1 := by decide +kernel
theorem a3 : aroundOf (pairs (codes 3 g3)) = 1 := by decide +kernel
theorem aF : aroundOf (pairs (codes 2 gF)) = 0 := by decide +kernel
theorem rA : doorsOf (pairs (codes 2 gA)) = [0] := by decide +kernel
theorem r3 : doorsOf (pairs (codes 3 g3)) = [0] := by decide +kernel
theorem rF : doorsOf (pairs (codes 2 gF)) = [] := by decide +kernel
theorem rE : doorsOf (pairs (codes 2 gE)) = [0, 1] := by decide +kernel
theorem rG : doorsOf (pairs (codes 2 gG)) = [1, 2] := by decide +kernel
theorem toA : toldOf 2 gA = .full 0 0 1 := by
  have e : firstBrk 2 gA = none := by decide +kernel
  unfold toldOf
  rw [e, fA]
  rfl
theorem to3 : toldOf 3 g3 = .full 0 0 0 := by
  have e : firstBrk 3 g3 = none := by decide +kernel
  unfold toldOf
  rw [e, f3]
  rfl
theorem toB : toldOf 2 gB = .breaks 0 0 := by
  have e : firstBrk 2 gB = some (0, 0) := by decide +kernel
  unfold toldOf
  rw [e]
  rfl
theorem toE : toldOf 2 gE = .breaks 1 0 := by
  have e : firstBrk 2 gE = some (1, 0) := by decide +kernel
  unfold toldOf
  rw [e]
  rfl
theorem toJ : toldOf 3 gJ = .breaks 0 1 := by
  have e : firstBrk 3 gJ = some (0, 1) := by decide +kernel
  unfold toldOf
  rw [e]
  rfl
theorem two_way {n : Nat} {g : Nat → Nat → Nat} {t : Int} {s u : Sm} {e : Option Nat} (hs : isSm n s) (hu : isSm n u) (h0 : stp n g t s = some u) (h1 : stp n g t u = none) (he : e = outAt n g t u) : Way n g t s [s, u] e := ⟨⟨h0, h1⟩, rfl, fun x hx => by
  rcases List.mem_cons.mp hx with rfl | hx
  · exact hs
  · rw [List.mem_singleton] at hx; rw [hx]; exact hu, ⟨u, rfl, he⟩⟩
theorem s001 {n : Nat} (h : 2 ≤ n) : isSm n (0, 0, 1) := .inl ⟨rfl, by show 0 + 0 + 1 < n; omega⟩
theorem s000 : isSm 3 (0, 0, 0) := .inr ⟨rfl, by decide⟩
theorem q3w : Q_walk [.list (triD 3 g3), .int (0 : Nat)] (ansOf [(0, 0, 1), (0, 0, 0)] none) := ⟨3, g3, 0, 1, _, _, tri3, .inl rfl, by decide, by decide +kernel, two_way (s001 (by decide)) s000 (by decide +kernel) (by decide +kernel) (by decide +kernel), rfl, rfl⟩
theorem q3o : Q_walk_out [.list (triD 3 g3), smD (0, 0, 0)] (ansOf [(0, 0, 0), (0, 0, 1)] (some 0)) := ⟨3, g3, (0, 0, 0), -1, _, _, tri3, .inr rfl, s000, by decide +kernel, two_way s000 (s001 (by decide)) (by decide +kernel) (by decide +kernel) (by decide +kernel), rfl, rfl⟩
theorem qE0 : Q_walk [.list (triD 2 gE), .int (0 : Nat)] (ansOf [(0, 0, 1)] (some 1)) := ⟨2, gE, 0, 1, _, _, triE, .inl rfl, by decide, by decide +kernel, one_way (s001 (by decide)) (by decide +kernel) (by decide +kernel), rfl, rfl⟩
theorem qG2 : Q_walk [.list (triD 2 gG), .int (2 : Nat)] (ansOf [(0, 0, 1)] (some 1)) := ⟨2, gG, 2, -1, _, _, triG, .inr rfl, by decide, by decide +kernel, one_way (s001 (by decide)) (by decide +kernel) (by decide +kernel), rfl, rfl⟩
theorem qA1 : Q_walk_out [.list (triD 2 gA), smD (0, 0, 1)] (ansOf [(0, 0, 1)] (some 0)) := ⟨2, gA, (0, 0, 1), -1, _, _, triA, .inr rfl, s001 (by decide), by decide +kernel, one_way (s001 (by decide)) (by decide +kernel) (by decide +kernel), rfl, rfl⟩
section
variable {c : Kls} {K : PySem.W.Frag} {σ : L2.St} {H H' : Hp} {te ta tb : TE} {D : Ends} {tz : TS} {a b : Ans}
theorem fldBrR {r p : Int} : ∀ (H1 H2 : Hp) (x : Addr), AnsN c K H1 H2 x (.breaks r p) → ∃ dx fs v, H2 x = some (.ins (clsOf c (.breaks r p)) dx fs) ∧ List.lookup (Str.ofString "row") fs = some v ∧ Dp K H2 v (.int r) := fun _ _ _ h => by
  obtain ⟨dx, h⟩ := h
  exact ⟨dx, _, _, h, lkHd, .int r⟩
theorem fldBrP {r p : Int} : ∀ (H1 H2 : Hp) (x : Addr), AnsN c K H1 H2 x (.breaks r p) → ∃ dx fs v, H2 x = some (.ins (clsOf c (.breaks r p)) dx fs) ∧ List.lookup (Str.ofString "place") fs = some v ∧ Dp K H2 v (.int p) := fun _ _ _ h => by
  obtain ⟨dx, h⟩ := h
  exact ⟨dx, _, _, h, (lkTl nPR).trans lkHd, .int p⟩
theorem qParAA {i j : Nat} (ha : EvAn c K ta σ H a) (hb : EvAn c K tb σ H b) (k : ∀ x y H1, Ex H H1 → AnsN c K H H1 x a → AnsN c K H H1 y b → tz D ((σ.set i (some (.ref x))).set j (some (.ref y))) H1) : tSeq (tPar i j (tCons ta (tCons tb tNil))) tz D σ H :=
  ha H (Ex.refl H) _ fun x H1 hx e1 an1 => hb H1 e1 _ fun y H2 hy e2 an2 => ⟨_, _, rfl, k x y H2 (e1.trans e2) (an1.up e2) (an2.back e1)⟩
theorem litSm {p q r : Nat} {x y z : Int} (hx : x = p) (hy : y = q) (hz : z = r) : EvD K (tTup (tCons (tC (.int x)) (tCons (tC (.int y)) (tCons (tC (.int z)) tNil)))) σ H (smD (p, q, r)) := by
  subst hx hy hz
  exact edTup (aCons (cI _) (aCons (cI _) (aCons (cI _) aNil))) (Nat.le_of_ble_eq_true rfl)
theorem lit2 {x y : Str} {g : Nat → Nat → Nat} (e : [PyData.str x, .str y] = triD 2 g) : EvD K (tLst (tCons (tC (.str x)) (tCons (tC (.str y)) tNil))) σ H (.list (triD 2 g)) := edN (enIs (enLst (aCons (edS ev_c) (aCons (edS ev_c) aNil)) (Nat.le_of_ble_eq_true rfl)) e)
theorem lit3 {x y z : Str} {g : Nat → Nat → Nat} (e : [PyData.str x, .str y, .str z] = triD 3 g) : EvD K (tLst (tCons (tC (.str x)) (tCons (tC (.str y)) (tCons (tC (.str z)) tNil)))) σ H (.list (triD 3 g)) := edN (enIs (enLst (aCons (edS ev_c) (aCons (edS ev_c) (aCons (edS ev_c) aNil))) (Nat.le_of_ble_eq_true rfl)) e)
theorem tgTup4 {x : V} {d1 d2 d3 d4 : PyData} {i j k l : Nat} {σ1 : L2.St} (h : Dp K H x (.tuple [d1, d2, d3, d4])) : ∃ v w z u, Dp K H v d1 ∧ Dp K H w d2 ∧ Dp K H z d3 ∧ Dp K H u d4 ∧ ∀ Q : L2.St → Hp → Prop, Q ((((σ1.set i (some v)).set j (some w)).set k (some z)).set l (some u)) H → gTup K 4 (gCons (gName i) (gCons (gName j) (gCons (gName k) (gCons (gName l) gNil)))) x σ1 H Q := by
  obtain ⟨a, xs, rfl, hs, hr⟩ := dpTup h
  cases hr with
  | cons h1 hr => cases hr with
    | cons h2 hr => cases hr with
      | cons h3 hr => cases hr with
        | cons h4 hr =>
          cases hr
          exact ⟨_, _, _, _, h1, h2, h3, h4, fun Q q => ⟨a, _, rfl, hs, rfl, _, _, rfl, _, _, rfl, _, _, rfl, _, _, rfl, rfl, q⟩⟩
theorem tgTup5 {x : V} {d1 d2 d3 d4 d5 : PyData} {i j k l m : Nat} {σ1 : L2.St} (h : Dp K H x (.tuple [d1, d2, d3, d4, d5])) : ∃ v w z u y, Dp K H v d1 ∧ Dp K H w d2 ∧ Dp K H z d3 ∧ Dp K H u d4 ∧ Dp K H y d5 ∧ ∀ Q : L2.St → Hp → Prop, Q (((((σ1.set i (some v)).set j (some w)).set k (some z)).set l (some u)).set m (some y)) H → gTup K 5 (gCons (gName i) (gCons (gName j) (gCons (gName k) (gCons (gName l) (gCons (gName m) gNil))))) x σ1 H Q := by
  obtain ⟨a, xs, rfl, hs, hr⟩ := dpTup h
  cases hr with
  | cons h1 hr => cases hr with
    | cons h2 hr => cases hr with
      | cons h3 hr => cases hr with
        | cons h4 hr => cases hr with
          | cons h5 hr =>
            cases hr
            exact ⟨_, _, _, _, _, h1, h2, h3, h4, h5, fun Q q => ⟨a, _, rfl, hs, rfl, _, _, rfl, _, _, rfl, _, _, rfl, _, _, rfl, _, _, rfl, rfl, q⟩⟩
end
def P__law_walks_promises : List PyData → PyData → Prop := fun ds d => ds = [.list (triD 2 gA), .list (triD 3 g3), .list (triD 2 gB)] ∧ d = .bool true
end Dt

/-! Answers by hand, case by case. -/
namespace Dt
open PySem L2 Evl PyProof.Rows
theorem nA : trn gA (0, 0, 1) = 1 := by decide +kernel
theorem nB : trn gB (0, 0, 1) = -1 := by decide +kernel
theorem n30 : trn g3 (0, 0, 0) = 1 := by decide +kernel
theorem n31 : trn g3 (0, 0, 1) = 0 := by decide +kernel
abbrev C5 := Int × Int × Int × Nat × (Nat → Nat → Nat) × Bool
abbrev C4 := Int × Int × Nat × (Nat → Nat → Nat) × Bool
def enc5 (c : C5) : PyData := .tuple [.int c.1, .int c.2.1, .int c.2.2.1, .list (triD c.2.2.2.1 c.2.2.2.2.1), .bool c.2.2.2.2.2]
def enc4 (c : C4) : PyData := .tuple [.int c.1, .int c.2.1, .list (triD c.2.2.1 c.2.2.2.1), .bool c.2.2.2.2]
def L5 : List C5 := [(0, 0, 1, 2, gA, true), (0, 0, 0, 2, gA, false), (0, 1, 1, 2, gA, false), (1, 0, 1, 2, gA, false), (-1, 0, 1, 2, gA, false), (0, 0, 0, 3, g3, true), (0, 0, 1, 3, g3, false), (0, 0, 2, 2, gA, false), (0, 0, 1, 2, gF, false), (10 ^ (30 : Int).toNat, 0, 1, 2, gA, false)]
def L4 : List C4 := [(0, 0, 2, gB, true), (0, 0, 2, gA, false), (1, 0, 2, gE, true), (0, 1, 2, gE, false), (0, 1, 2, gH, true), (1, 0, 2, gI, true), (2, 0, 2, gA, false), (-1, 0, 2, gB, false), (0, 5, 2, gB, false)]
theorem L5ok : ∀ c ∈ L5, Tri c.2.2.2.1 c.2.2.2.2.1 ∧ fullB c.2.2.2.1 c.2.2.2.2.1 c.1 c.2.1 c.2.2.1 = c.2.2.2.2.2 := by
  intro c hc
  simp only [L5, List.mem_cons, List.not_mem_nil, or_false] at hc
  rcases hc with rfl | rfl | rfl | rfl | rfl | rfl | rfl | rfl | rfl | rfl
  · exact ⟨triA, by decide +kernel⟩
  · exact ⟨triA, by decide +kernel⟩
  · exact ⟨triA, by decide +kernel⟩
  · exact ⟨triA, by decide +kernel⟩
  · exact ⟨triA, by decide +kernel⟩
  · exact ⟨tri3, by decide +kernel⟩
  · exact ⟨tri3, by decide +kernel⟩
  · exact ⟨triA, by decide +kernel⟩
  · exact ⟨triF, by decide +kernel⟩
  · exact ⟨triA, by decide +kernel⟩
theorem L4ok : ∀ c ∈ L4, Tri c.2.2.1 c.2.2.2.1 ∧ brkB c.2.2.1 c.2.2.2.1 c.1 c.2.1 = c.2.2.2.2 := by
  intro c hc
  simp only [L4, List.mem_cons, List.not_mem_nil, or_false] at hc
  rcases hc with rfl | rfl | rfl | rfl | rfl | rfl | rfl | rfl | rfl
  · exact ⟨triB, by decide +kernel⟩
  · exact ⟨triA, by decide +kernel⟩
  · exact ⟨triE, by decide +kernel⟩
  · exact ⟨triE, by decide +kernel⟩
  · exact ⟨triH, by decide +kernel⟩
  · exact ⟨triI, by decide +kernel⟩
  · exact ⟨triA, by decide +kernel⟩
  · exact ⟨triB, by decide +kernel⟩
  · exact ⟨triB, by decide +kernel⟩
section
variable {c : Kls} {K : PySem.W.Frag} {σ : L2.St} {H H' : Hp} {te t1 t2 t3 t4 t5 : TE} {ta : TA}
theorem edBreaksShowsA {n : Nat} {g : Nat → Nat → Nat} {r p : Int} {E : XK} (tri : Tri n g) (h : EvAn c K te σ H (.breaks r p)) (ha : EvAD K ta σ H [.list (triD n g)]) : EvD K (tMeth c.breaks "shows" (SpBreaks K c) [] E te ta) σ H (.bool (brkB n g r p)) := edB fun H1 e Q q =>
  h H1 e _ fun x H2 hn b hx => by
    obtain ⟨dx, hx⟩ := hx
    exact ⟨x, dx, _, rfl, hx, noShows2, ha H2 (e.trans b) _ fun vs H3 k hd => by
      obtain ⟨v, rfl, h1⟩ := dps1 hd
      exact ⟨x, v, dx, n, g, r, p, rfl, tri, h1, k _ _ hx, fun H4 l => q H4 ((b.trans k).trans l)⟩⟩
theorem ed5 {x y z : Int} {n : Nat} {g : Nat → Nat → Nat} {b : Bool} (h1 : EvD K t1 σ H (.int x)) (h2 : EvD K t2 σ H (.int y)) (h3 : EvD K t3 σ H (.int z)) (h4 : EvD K t4 σ H (.list (triD n g))) : EvD K (tTup (tCons t1 (tCons t2 (tCons t3 (tCons t4 (tCons (tC (.bl b)) tNil)))))) σ H (enc5 (x, y, z, n, g, b)) := edTup (aCons h1 (aCons h2 (aCons h3 (aCons h4 (aCons (edB ev_c) aNil))))) (Nat.le_of_ble_eq_true rfl)
theorem ed4 {x y : Int} {n : Nat} {g : Nat → Nat → Nat} {b : Bool} (h1 : EvD K t1 σ H (.int x)) (h2 : EvD K t2 σ H (.int y)) (h4 : EvD K t4 σ H (.list (triD n g))) : EvD K (tTup (tCons t1 (tCons t2 (tCons t4 (tCons (tC (.bl b)) tNil))))) σ H (enc4 (x, y, n, g, b)) := edTup (aCons h1 (aCons h2 (aCons h4 (aCons (edB ev_c) aNil)))) (Nat.le_of_ble_eq_true rfl)
theorem neg1 : EvD K (tUn (rU fun i => .int (-i)) (tC (.int 1))) σ H (.int (-1)) := edI (ev_un ev_c ru_neg)
end
end Dt
namespace Dt
open PySem L2 Evl PyProof.Rows
section
variable {c : Kls} {K : PySem.W.Frag} {σ : L2.St} {H H' : Hp} {t1 t2 t3 : TE} {D : Ends} {tz : TS} {d1 d2 d3 : PyData} {ds : List PyData}
theorem qPar3 {i j l : Nat} (h1 : EvD K t1 σ H d1) (h2 : EvD K t2 σ H d2) (h3 : EvD K t3 σ H d3) (k : ∀ a b c H1, Ex H H1 → Dp K H1 a d1 → Dp K H1 b d2 → Dp K H1 c d3 → tz D (((σ.set i (some a)).set j (some b)).set l (some c)) H1) : tSeq (tPar3 i j l (tCons t1 (tCons t2 (tCons t3 tNil)))) tz D σ H :=
  h1 H (Ex.refl H) _ fun a H1 e1 ha => h2 H1 e1 _ fun b H2 e2 hb => h3 H2 (e1.trans e2) _ fun c H3 e3 hc => ⟨_, _, _, rfl, k a b c H3 ((e1.trans e2).trans e3) (dpUp (e2.trans e3) ha) (dpUp e3 hb) hc⟩
theorem qParDN {i j : Nat} (ha : EvD K t1 σ H d1) (hb : EvN K t2 σ H ds) (k : ∀ v p xs H0 H1, Ex H H0 → H0 p = none → Ex H0 H1 → Dp K H0 v d1 → H1 p = some (.lst xs) → DpAll K H1 xs ds → tz D ((σ.set i (some v)).set j (some (.ref p))) H1) : tSeq (tPar i j (tCons t1 (tCons t2 tNil))) tz D σ H :=
  ha H (Ex.refl H) _ fun v H1 e1 hv => hb H1 e1 _ fun p xs H2 hp e2 h2 d2 => ⟨_, _, rfl, k v p xs H1 H2 e1 hp e2 hv h2 d2⟩
end
/-- abs of a whole number -/
def rAbs : List V → Hp → VK → Prop := fun xs H Q => ∃ i, xs = [V.int i] ∧ Q (V.int (if i < 0 then -i else i)) H
theorem call_absR {X : Cx} : CallR X (Value.builtin "abs") rAbs := call_abs
theorem edAbs {K : PySem.W.Frag} {σ : L2.St} {H : Hp} {te : TE} {i : Int} (h : EvD K te σ H (.int i)) : EvD K (tCB rAbs (tCons te tNil)) σ H (.int (if i < 0 then -i else i)) := edI fun H1 e Q q => evI h H1 e _ fun H2 e2 => ⟨i, rfl, q H2 e2⟩
end Dt

/-! The text by its places. -/
namespace Dt
open PySem L2 Evl PyProof.Rows
def topS (i : Nat) : Stmt := PySem.Challenge.pw_doorwalk_k07_whole_numbers.main.body.getD i (.Pass ⟨0, 0, 0, 0⟩)
abbrev s_is_number : Stmt := topS 11
theorem sc_is_number : FnScope ["value"] ["value"] (defScope s_is_number) := ⟨rfl, rfl, rfl, by decide +kernel, rfl, by decide +kernel, by decide +kernel⟩
abbrev s_is_letter : Stmt := topS 12
theorem sc_is_letter : FnScope ["value"] ["value"] (defScope s_is_letter) := ⟨rfl, rfl, rfl, by decide +kernel, rfl, by decide +kernel, by decide +kernel⟩
abbrev s_is_row : Stmt := topS 13
theorem sc_is_row : FnScope ["row", "many", "letter"] ["row", "many"] (defScope s_is_row) := ⟨rfl, rfl, rfl, by decide +kernel, rfl, by decide +kernel, by decide +kernel⟩
abbrev s_is_triangle : Stmt := topS 14
theorem sc_is_triangle : FnScope ["triangle", "many", "at", "row"] ["triangle"] (defScope s_is_triangle) := ⟨rfl, rfl, rfl, by decide +kernel, rfl, by decide +kernel, by decide +kernel⟩
abbrev s_is_spot : Stmt := topS 15
theorem sc_is_spot : FnScope ["triangle", "row", "place"] ["triangle", "row", "place"] (defScope s_is_spot) := ⟨rfl, rfl, rfl, by decide +kernel, rfl, by decide +kernel, by decide +kernel⟩
abbrev s_is_small : Stmt := topS 16
theorem sc_is_small : FnScope ["triangle", "small", "part", "row", "place"] ["triangle", "small"] (defScope s_is_small) := ⟨rfl, rfl, rfl, by decide +kernel, rfl, by decide +kernel, by decide +kernel⟩
abbrev s_check_triangle : Stmt := topS 17
theorem sc_check_triangle : FnScope ["triangle"] ["triangle"] (defScope s_check_triangle) := ⟨rfl, rfl, rfl, by decide +kernel, rfl, by decide +kernel, by decide +kernel⟩
abbrev s_check_small : Stmt := topS 18
theorem sc_check_small : FnScope ["triangle", "small"] ["triangle", "small"] (defScope s_check_small) := ⟨rfl, rfl, rfl, by decide +kernel, rfl, by decide +kernel, by decide +kernel⟩
abbrev s_corners : Stmt := topS 19
theorem sc_corners : FnScope ["small", "row", "place", "up"] ["small"] (defScope s_corners) := ⟨rfl, rfl, rfl, by decide +kernel, rfl, by decide +kernel, by decide +kernel⟩
abbrev s_all_smalls : Stmt := topS 20
theorem sc_all_smalls : FnScope ["triangle", "smalls", "row", "last", "place"] ["triangle"] (defScope s_all_smalls) := ⟨rfl, rfl, rfl, by decide +kernel, rfl, by decide +kernel, by decide +kernel⟩
abbrev s_letters_at : Stmt := topS 21
theorem sc_letters_at : FnScope ["triangle", "spots", "row", "place"] ["triangle", "spots"] (defScope s_letters_at) := ⟨rfl, rfl, rfl, by decide +kernel, rfl, by decide +kernel, by decide +kernel⟩
abbrev s_turn_of : Stmt := topS 22
theorem sc_turn_of : FnScope ["triangle", "small", "round_left"] ["triangle", "small"] (defScope s_turn_of) := ⟨rfl, rfl, rfl, by decide +kernel, rfl, by decide +kernel, by decide +kernel⟩
abbrev s_side_spots : Stmt := topS 23
theorem sc_side_spots : FnScope ["triangle", "last", "below", "right", "left", "place", "row"] ["triangle"] (defScope s_side_spots) := ⟨rfl, rfl, rfl, by decide +kernel, rfl, by decide +kernel, by decide +kernel⟩
abbrev s_side_steps : Stmt := topS 24
theorem sc_side_steps : FnScope ["triangle", "spots"] ["triangle"] (defScope s_side_steps) := ⟨rfl, rfl, rfl, by decide +kernel, rfl, by decide +kernel, by decide +kernel⟩
abbrev s_is_door : Stmt := topS 25
theorem sc_is_door : FnScope ["triangle", "step"] ["triangle", "step"] (defScope s_is_door) := ⟨rfl, rfl, rfl, by decide +kernel, rfl, by decide +kernel, by decide +kernel⟩
abbrev s_breaks_rule : Stmt := topS 26
theorem sc_breaks_rule : FnScope ["triangle", "row", "place", "letter"] ["triangle", "row", "place"] (defScope s_breaks_rule) := ⟨rfl, rfl, rfl, by decide +kernel, rfl, by decide +kernel, by decide +kernel⟩
abbrev s_fulls : Stmt := topS 27
theorem sc_fulls : FnScope ["triangle", "small"] ["triangle"] (defScope s_fulls) := ⟨rfl, rfl, rfl, by decide +kernel, rfl, by decide +kernel, by decide +kernel⟩
abbrev s_around : Stmt := topS 28
theorem sc_around : FnScope ["triangle", "steps", "step"] ["triangle"] (defScope s_around) := ⟨rfl, rfl, rfl, by decide +kernel, rfl, by decide +kernel, by decide +kernel⟩
abbrev s_doors : Stmt := topS 29
theorem sc_doors : FnScope ["triangle", "at", "step"] ["triangle"] (defScope s_doors) := ⟨rfl, rfl, rfl, by decide +kernel, rfl, by decide +kernel, by decide +kernel⟩
abbrev s_turn : Stmt := topS 30
theorem sc_turn : FnScope ["triangle", "small"] ["triangle", "small"] (defScope s_turn) := ⟨rfl, rfl, rfl, by decide +kernel, rfl, by decide +kernel, by decide +kernel⟩
abbrev s_put : Stmt := topS 31
theorem sc_put : FnScope ["triangle", "row", "place", "letter", "rows"] ["triangle", "row", "place", "letter"] (defScope s_put) := ⟨rfl, rfl, rfl, by decide +kernel, rfl, by decide +kernel, by decide +kernel⟩
abbrev s_Full___init__ : Stmt := inClass (topS 34) 0
theorem sc_Full___init__ : FnScope ["self", "row", "place", "up"] ["self", "row", "place", "up"] (defScope s_Full___init__) := ⟨rfl, rfl, rfl, by decide +kernel, rfl, by decide +kernel, by decide +kernel⟩
abbrev s_Full_shows : Stmt := inClass (topS 34) 1
theorem sc_Full_shows : FnScope ["self", "triangle", "small"] ["self", "triangle"] (defScope s_Full_shows) := ⟨rfl, rfl, rfl, by decide +kernel, rfl, by decide +kernel, by decide +kernel⟩
abbrev s_Breaks___init__ : Stmt := inClass (topS 35) 0
theorem sc_Breaks___init__ : FnScope ["self", "row", "place"] ["self", "row", "place"] (defScope s_Breaks___init__) := ⟨rfl, rfl, rfl, by decide +kernel, rfl, by decide +kernel, by decide +kernel⟩
abbrev s_Breaks_shows : Stmt := inClass (topS 35) 1
theorem sc_Breaks_shows : FnScope ["self", "triangle"] ["self", "triangle"] (defScope s_Breaks_shows) := ⟨rfl, rfl, rfl, by decide +kernel, rfl, by decide +kernel, by decide +kernel⟩
abbrev s_Ended___init__ : Stmt := inClass (topS 36) 0
theorem sc_Ended___init__ : FnScope ["self", "smalls"] ["self", "smalls"] (defScope s_Ended___init__) := ⟨rfl, rfl, rfl, by decide +kernel, rfl, by decide +kernel, by decide +kernel⟩
abbrev s_Out___init__ : Stmt := inClass (topS 37) 0
theorem sc_Out___init__ : FnScope ["self", "smalls", "door"] ["self", "smalls", "door"] (defScope s_Out___init__) := ⟨rfl, rfl, rfl, by decide +kernel, rfl, by decide +kernel, by decide +kernel⟩
abbrev s_left_of : Stmt := topS 39
theorem sc_left_of : FnScope ["step", "row", "place", "next_row", "next_place", "third_row", "third_place", "rows", "low"] ["step"] (defScope s_left_of) := ⟨rfl, rfl, rfl, by decide +kernel, rfl, by decide +kernel, by decide +kernel⟩
abbrev s_way_on : Stmt := topS 40
theorem sc_way_on : FnScope ["triangle", "small", "came", "first", "second", "third", "step"] ["triangle", "small", "came"] (defScope s_way_on) := ⟨rfl, rfl, rfl, by decide +kernel, rfl, by decide +kernel, by decide +kernel⟩
abbrev s_walk_on : Stmt := topS 41
theorem sc_walk_on : FnScope ["triangle", "small", "came", "counts", "smalls", "way", "here", "there", "at", "step"] ["triangle", "small", "came"] (defScope s_walk_on) := ⟨rfl, rfl, rfl, by decide +kernel, rfl, by decide +kernel, by decide +kernel⟩
abbrev s_told : Stmt := topS 42
theorem sc_told : FnScope ["triangle", "row", "letters", "place", "up"] ["triangle"] (defScope s_told) := ⟨rfl, rfl, rfl, by decide +kernel, rfl, by decide +kernel, by decide +kernel⟩
abbrev s_walk : Stmt := topS 43
theorem sc_walk : FnScope ["triangle", "door", "step"] ["triangle", "door"] (defScope s_walk) := ⟨rfl, rfl, rfl, by decide +kernel, rfl, by decide +kernel, by decide +kernel⟩
abbrev s_walk_out : Stmt := topS 44
theorem sc_walk_out : FnScope ["triangle", "small", "row", "place", "up"] ["triangle", "small"] (defScope s_walk_out) := ⟨rfl, rfl, rfl, by decide +kernel, rfl, by decide +kernel, by decide +kernel⟩
abbrev s__law_number : Stmt := topS 46
theorem sc__law_number : FnScope ["_law_cell", "_law_at", "_law_whole", "_law_blend", "_law_more"] ["_law_cell", "_law_at", "_law_whole"] (defScope s__law_number) := ⟨rfl, rfl, rfl, by decide +kernel, rfl, by decide +kernel, by decide +kernel⟩
abbrev s__law_plain : Stmt := topS 47
theorem sc__law_plain : FnScope ["_law_thing", "_law_one"] ["_law_thing"] (defScope s__law_plain) := ⟨rfl, rfl, rfl, by decide +kernel, rfl, by decide +kernel, by decide +kernel⟩
abbrev s__law_truths : Stmt := topS 48
theorem sc__law_truths : FnScope ["_law_things", "_law_one"] ["_law_things"] (defScope s__law_truths) := ⟨rfl, rfl, rfl, by decide +kernel, rfl, by decide +kernel, by decide +kernel⟩
abbrev s__law_triangle_right : Stmt := topS 49
theorem sc__law_triangle_right : FnScope ["_law_triangle", "_law_found", "_law_answer", "_law_shown", "_law_walks", "_law_one", "_law_built", "_law_door", "_law_small"] ["_law_triangle"] (defScope s__law_triangle_right) := ⟨rfl, rfl, rfl, by decide +kernel, rfl, by decide +kernel, by decide +kernel⟩
abbrev s__law_promises_right : Stmt := topS 50
theorem sc__law_promises_right : FnScope ["_law_two", "_law_three", "_law_back", "_law_cases", "_law_row", "_law_place", "_law_up", "_law_triangle", "_law_due"] [] (defScope s__law_promises_right) := ⟨rfl, rfl, rfl, by decide +kernel, rfl, by decide +kernel, by decide +kernel⟩
abbrev s__law_walks_promises : Stmt := topS 51
theorem sc__law_walks_promises : FnScope ["_law_two", "_law_three", "_law_back", "_law_out", "_law_through"] ["_law_two", "_law_three", "_law_back"] (defScope s__law_walks_promises) := ⟨rfl, rfl, rfl, by decide +kernel, rfl, by decide +kernel, by decide +kernel⟩
abbrev s_law : Stmt := topS 52
theorem sc_law : FnScope ["_law_script", "_law_whole", "_law_many", "_law_drawn", "_law_row", "_law_triangle", "_law_at"] ["_law_script"] (defScope s_law) := ⟨rfl, rfl, rfl, by decide +kernel, rfl, by decide +kernel, by decide +kernel⟩
structure Tx (K : PySem.W.Frag) (mg : Str → Option Value) where
  a_is_number : Addr
  d_is_number : FuncData
  F_is_number : Fun K "is_number" "is_number" s_is_number a_is_number d_is_number
  b_is_number : Binds K d_is_number ["value"] []
  g_is_number : mg "is_number" = some (.ref a_is_number)
  a_is_letter : Addr
  d_is_letter : FuncData
  F_is_letter : Fun K "is_letter" "is_letter" s_is_letter a_is_letter d_is_letter
  b_is_letter : Binds K d_is_letter ["value"] []
  g_is_letter : mg "is_letter" = some (.ref a_is_letter)
  a_is_row : Addr
  d_is_row : FuncData
  F_is_row : Fun K "is_row" "is_row" s_is_row a_is_row d_is_row
  b_is_row : Binds K d_is_row ["row", "many"] []
  g_is_row : mg "is_row" = some (.ref a_is_row)
  a_is_triangle : Addr
  d_is_triangle : FuncData
  F_is_triangle : Fun K "is_triangle" "is_triangle" s_is_triangle a_is_triangle d_is_triangle
  b_is_triangle : Binds K d_is_triangle ["triangle"] []
  g_is_triangle : mg "is_triangle" = some (.ref a_is_triangle)
  a_is_spot : Addr
  d_is_spot : FuncData
  F_is_spot : Fun K "is_spot" "is_spot" s_is_spot a_is_spot d_is_spot
  b_is_spot : Binds K d_is_spot ["triangle", "row", "place"] []
  g_is_spot : mg "is_spot" = some (.ref a_is_spot)
  a_is_small : Addr
  d_is_small : FuncData
  F_is_small : Fun K "is_small" "is_small" s_is_small a_is_small d_is_small
  b_is_small : Binds K d_is_small ["triangle", "small"] []
  g_is_small : mg "is_small" = some (.ref a_is_small)
  a_check_triangle : Addr
  d_check_triangle : FuncData
  F_check_triangle : Fun K "check_triangle" "check_triangle" s_check_triangle a_check_triangle d_check_triangle
  b_check_triangle : Binds K d_check_triangle ["triangle"] []
  g_check_triangle : mg "check_triangle" = some (.ref a_check_triangle)
  a_check_small : Addr
  d_check_small : FuncData
  F_check_small : Fun K "check_small" "check_small" s_check_small a_check_small d_check_small
  b_check_small : Binds K d_check_small ["triangle", "small"] []
  g_check_small : mg "check_small" = some (.ref a_check_small)
  a_corners : Addr
  d_corners : FuncData
  F_corners : Fun K "corners" "corners" s_corners a_corners d_corners
  b_corners : Binds K d_corners ["small"] []
  g_corners : mg "corners" = some (.ref a_corners)
  a_all_smalls : Addr
  d_all_smalls : FuncData
  F_all_smalls : Fun K "all_smalls" "all_smalls" s_all_smalls a_all_smalls d_all_smalls
  b_all_smalls : Binds K d_all_smalls ["triangle"] []
  g_all_smalls : mg "all_smalls" = some (.ref a_all_smalls)
  a_letters_at : Addr
  d_letters_at : FuncData
  F_letters_at : Fun K "letters_at" "letters_at" s_letters_at a_letters_at d_letters_at
  b_letters_at : Binds K d_letters_at ["triangle", "spots"] []
  g_letters_at : mg "letters_at" = some (.ref a_letters_at)
  a_turn_of : Addr
  d_turn_of : FuncData
  F_turn_of : Fun K "turn_of" "turn_of" s_turn_of a_turn_of d_turn_of
  b_turn_of : Binds K d_turn_of ["triangle", "small"] []
  g_turn_of : mg "turn_of" = some (.ref a_turn_of)
  a_side_spots : Addr
  d_side_spots : FuncData
  F_side_spots : Fun K "side_spots" "side_spots" s_side_spots a_side_spots d_side_spots
  b_side_spots : Binds K d_side_spots ["triangle"] []
  g_side_spots : mg "side_spots" = some (.ref a_side_spots)
  a_side_steps : Addr
  d_side_steps : FuncData
  F_side_steps : Fun K "side_steps" "side_steps" s_side_steps a_side_steps d_side_steps
  b_side_steps : Binds K d_side_steps ["triangle"] []
  g_side_steps : mg "side_steps" = some (.ref a_side_steps)
  a_is_door : Addr
  d_is_door : FuncData
  F_is_door : Fun K "is_door" "is_door" s_is_door a_is_door d_is_door
  b_is_door : Binds K d_is_door ["triangle", "step"] []
  g_is_door : mg "is_door" = some (.ref a_is_door)
  a_breaks_rule : Addr
  d_breaks_rule : FuncData
  F_breaks_rule : Fun K "breaks_rule" "breaks_rule" s_breaks_rule a_breaks_rule d_breaks_rule
  b_breaks_rule : Binds K d_breaks_rule ["triangle", "row", "place"] []
  g_breaks_rule : mg "breaks_rule" = some (.ref a_breaks_rule)
  a_fulls : Addr
  d_fulls : FuncData
  F_fulls : Fun K "fulls" "fulls" s_fulls a_fulls d_fulls
  b_fulls : Binds K d_fulls ["triangle"] []
  g_fulls : mg "fulls" = some (.ref a_fulls)
  a_around : Addr
  d_around : FuncData
  F_around : Fun K "around" "around" s_around a_around d_around
  b_around : Binds K d_around ["triangle"] []
  g_around : mg "around" = some (.ref a_around)
  a_doors : Addr
  d_doors : FuncData
  F_doors : Fun K "doors" "doors" s_doors a_doors d_doors
  b_doors : Binds K d_doors ["triangle"] []
  g_doors : mg "doors" = some (.ref a_doors)
  a_turn : Addr
  d_turn : FuncData
  F_turn : Fun K "turn" "turn" s_turn a_turn d_turn
  b_turn : Binds K d_turn ["triangle", "small"] []
  g_turn : mg "turn" = some (.ref a_turn)
  a_put : Addr
  d_put : FuncData
  F_put : Fun K "put" "put" s_put a_put d_put
  b_put : Binds K d_put ["triangle", "row", "place", "letter"] []
  g_put : mg "put" = some (.ref a_put)
  a_Full___init__ : Addr
  d_Full___init__ : FuncData
  F_Full___init__ : Fun K "__init__" "Full.__init__" s_Full___init__ a_Full___init__ d_Full___init__
  b_Full___init__ : Binds K d_Full___init__ ["self", "row", "place", "up"] []
  a_Full_shows : Addr
  d_Full_shows : FuncData
  F_Full_shows : Fun K "shows" "Full.shows" s_Full_shows a_Full_shows d_Full_shows
  b_Full_shows : Binds K d_Full_shows ["self", "triangle"] []
  a_Breaks___init__ : Addr
  d_Breaks___init__ : FuncData
  F_Breaks___init__ : Fun K "__init__" "Breaks.__init__" s_Breaks___init__ a_Breaks___init__ d_Breaks___init__
  b_Breaks___init__ : Binds K d_Breaks___init__ ["self", "row", "place"] []
  a_Breaks_shows : Addr
  d_Breaks_shows : FuncData
  F_Breaks_shows : Fun K "shows" "Breaks.shows" s_Breaks_shows a_Breaks_shows d_Breaks_shows
  b_Breaks_shows : Binds K d_Breaks_shows ["self", "triangle"] []
  a_Ended___init__ : Addr
  d_Ended___init__ : FuncData
  F_Ended___init__ : Fun K "__init__" "Ended.__init__" s_Ended___init__ a_Ended___init__ d_Ended___init__
  b_Ended___init__ : Binds K d_Ended___init__ ["self", "smalls"] []
  a_Out___init__ : Addr
  d_Out___init__ : FuncData
  F_Out___init__ : Fun K "__init__" "Out.__init__" s_Out___init__ a_Out___init__ d_Out___init__
  b_Out___init__ : Binds K d_Out___init__ ["self", "smalls", "door"] []
  a_left_of : Addr
  d_left_of : FuncData
  F_left_of : Fun K "left_of" "left_of" s_left_of a_left_of d_left_of
  b_left_of : Binds K d_left_of ["step"] []
  g_left_of : mg "left_of" = some (.ref a_left_of)
  a_way_on : Addr
  d_way_on : FuncData
  F_way_on : Fun K "way_on" "way_on" s_way_on a_way_on d_way_on
  b_way_on : Binds K d_way_on ["triangle", "small", "came"] []
  g_way_on : mg "way_on" = some (.ref a_way_on)
  a_walk_on : Addr
  d_walk_on : FuncData
  F_walk_on : Fun K "walk_on" "walk_on" s_walk_on a_walk_on d_walk_on
  b_walk_on : Binds K d_walk_on ["triangle", "small", "came"] []
  g_walk_on : mg "walk_on" = some (.ref a_walk_on)
  a_told : Addr
  d_told : FuncData
  F_told : Fun K "told" "told" s_told a_told d_told
  b_told : Binds K d_told ["triangle"] []
  g_told : mg "told" = some (.ref a_told)
  a_walk : Addr
  d_walk : FuncData
  F_walk : Fun K "walk" "walk" s_walk a_walk d_walk
  b_walk : Binds K d_walk ["triangle", "door"] []
  g_walk : mg "walk" = some (.ref a_walk)
  a_walk_out : Addr
  d_walk_out : FuncData
  F_walk_out : Fun K "walk_out" "walk_out" s_walk_out a_walk_out d_walk_out
  b_walk_out : Binds K d_walk_out ["triangle", "small"] []
  g_walk_out : mg "walk_out" = some (.ref a_walk_out)
  a__law_number : Addr
  d__law_number : FuncData
  F__law_number : Fun K "_law_number" "_law_number" s__law_number a__law_number d__law_number
  b__law_number : Binds K d__law_number ["_law_cell", "_law_at", "_law_whole"] []
  g__law_number : mg "_law_number" = some (.ref a__law_number)
  a__law_plain : Addr
  d__law_plain : FuncData
  F__law_plain : Fun K "_law_plain" "_law_plain" s__law_plain a__law_plain d__law_plain
  b__law_plain : Binds K d__law_plain ["_law_thing"] []
  g__law_plain : mg "_law_plain" = some (.ref a__law_plain)
  a__law_truths : Addr
  d__law_truths : FuncData
  F__law_truths : Fun K "_law_truths" "_law_truths" s__law_truths a__law_truths d__law_truths
  b__law_truths : Binds K d__law_truths ["_law_things"] []
  g__law_truths : mg "_law_truths" = some (.ref a__law_truths)
  a__law_triangle_right : Addr
  d__law_triangle_right : FuncData
  F__law_triangle_right : Fun K "_law_triangle_right" "_law_triangle_right" s__law_triangle_right a__law_triangle_right d__law_triangle_right
  b__law_triangle_right : Binds K d__law_triangle_right ["_law_triangle"] []
  g__law_triangle_right : mg "_law_triangle_right" = some (.ref a__law_triangle_right)
  a__law_promises_right : Addr
  d__law_promises_right : FuncData
  F__law_promises_right : Fun K "_law_promises_right" "_law_promises_right" s__law_promises_right a__law_promises_right d__law_promises_right
  b__law_promises_right : Binds K d__law_promises_right [] []
  g__law_promises_right : mg "_law_promises_right" = some (.ref a__law_promises_right)
  a__law_walks_promises : Addr
  d__law_walks_promises : FuncData
  F__law_walks_promises : Fun K "_law_walks_promises" "_law_walks_promises" s__law_walks_promises a__law_walks_promises d__law_walks_promises
  b__law_walks_promises : Binds K d__law_walks_promises ["_law_two", "_law_three", "_law_back"] []
  g__law_walks_promises : mg "_law_walks_promises" = some (.ref a__law_walks_promises)
  a_law : Addr
  d_law : FuncData
  F_law : Fun K "law" "law" s_law a_law d_law
  b_law : Binds K d_law ["_law_script"] []
  g_law : mg "law" = some (.ref a_law)
  z_abs : mg "abs" = none
  z_all : mg "all" = none
  z_bool : mg "bool" = none
  z_enumerate : mg "enumerate" = none
  z_int : mg "int" = none
  z_isinstance : mg "isinstance" = none
  z_len : mg "len" = none
  z_list : mg "list" = none
  z_min : mg "min" = none
  z_range : mg "range" = none
  z_str : mg "str" = none
  z_sum : mg "sum" = none
  z_tuple : mg "tuple" = none
  z_zip : mg "zip" = none
  a_DOOR_STEPS : Addr
  g_DOOR_STEPS : mg "DOOR_STEPS" = some (.ref a_DOOR_STEPS)
  a_LEFT_ROUNDS : Addr
  g_LEFT_ROUNDS : mg "LEFT_ROUNDS" = some (.ref a_LEFT_ROUNDS)
  a_LETTERS : Addr
  g_LETTERS : mg "LETTERS" = some (.ref a_LETTERS)
  a_RIGHT_ROUNDS : Addr
  g_RIGHT_ROUNDS : mg "RIGHT_ROUNDS" = some (.ref a_RIGHT_ROUNDS)
  C_Full : Addr
  g_Full : mg "Full" = some (.ref C_Full)
  C_Breaks : Addr
  g_Breaks : mg "Breaks" = some (.ref C_Breaks)
  C_Ended : Addr
  g_Ended : mg "Ended" = some (.ref C_Ended)
  C_Out : Addr
  g_Out : mg "Out" = some (.ref C_Out)
  o_Full : OwnC K C_Full
  mk_Full : Mk K C_Full a_Full___init__
  n_Full_row : NoAttr K C_Full "row"
  n_Full_place : NoAttr K C_Full "place"
  n_Full_up : NoAttr K C_Full "up"
  m_Full_shows : Meth K C_Full "shows" a_Full_shows
  o_Breaks : OwnC K C_Breaks
  mk_Breaks : Mk K C_Breaks a_Breaks___init__
  n_Breaks_row : NoAttr K C_Breaks "row"
  n_Breaks_place : NoAttr K C_Breaks "place"
  m_Breaks_shows : Meth K C_Breaks "shows" a_Breaks_shows
  o_Ended : OwnC K C_Ended
  mk_Ended : Mk K C_Ended a_Ended___init__
  n_Ended_smalls : NoAttr K C_Ended "smalls"
  o_Out : OwnC K C_Out
  mk_Out : Mk K C_Out a_Out___init__
  n_Out_smalls : NoAttr K C_Out "smalls"
  n_Out_door : NoAttr K C_Out "door"
  i_Full_Full : PySem.W.kitOne K (.ref C_Full) (.ref C_Full) = some true
  i_Full_Breaks : PySem.W.kitOne K (.ref C_Full) (.ref C_Breaks) = some false
  i_Full_Ended : PySem.W.kitOne K (.ref C_Full) (.ref C_Ended) = some false
  i_Full_Out : PySem.W.kitOne K (.ref C_Full) (.ref C_Out) = some false
  i_Breaks_Full : PySem.W.kitOne K (.ref C_Breaks) (.ref C_Full) = some false
  i_Breaks_Breaks : PySem.W.kitOne K (.ref C_Breaks) (.ref C_Breaks) = some true
  i_Breaks_Ended : PySem.W.kitOne K (.ref C_Breaks) (.ref C_Ended) = some false
  i_Breaks_Out : PySem.W.kitOne K (.ref C_Breaks) (.ref C_Out) = some false
  i_Ended_Full : PySem.W.kitOne K (.ref C_Ended) (.ref C_Full) = some false
  i_Ended_Breaks : PySem.W.kitOne K (.ref C_Ended) (.ref C_Breaks) = some false
  i_Ended_Ended : PySem.W.kitOne K (.ref C_Ended) (.ref C_Ended) = some true
  i_Ended_Out : PySem.W.kitOne K (.ref C_Ended) (.ref C_Out) = some false
  i_Out_Full : PySem.W.kitOne K (.ref C_Out) (.ref C_Full) = some false
  i_Out_Breaks : PySem.W.kitOne K (.ref C_Out) (.ref C_Breaks) = some false
  i_Out_Ended : PySem.W.kitOne K (.ref C_Out) (.ref C_Ended) = some false
  i_Out_Out : PySem.W.kitOne K (.ref C_Out) (.ref C_Out) = some true
  k_DOOR_STEPS : ∀ H, SqT K H a_DOOR_STEPS [.str "ab", .str "ba"]
  k_LEFT_ROUNDS : ∀ H, SqT K H a_LEFT_ROUNDS [.str "abc", .str "bca", .str "cab"]
  k_LETTERS : ∀ H, SqT K H a_LETTERS [.str "a", .str "b", .str "c"]
  k_RIGHT_ROUNDS : ∀ H, SqT K H a_RIGHT_ROUNDS [.str "acb", .str "cba", .str "bac"]
def kls {K : PySem.W.Frag} {mg : Str → Option Value} (T : Tx K mg) : Kls := ⟨T.C_Full, T.C_Breaks, T.C_Ended, T.C_Out⟩
end Dt

namespace Dt
open PySem L2 Evl PyProof.Rows
section
variable {P : Program} {w : World} {K : PySem.W.Frag} {mg : Str → Option Value} {base : Heap}
/-! numbers, spots, small triangles, letters -/
theorem ok_is_number (T : Tx K mg) : FnOk P w K mg base CX0 1 T.a_is_number T.d_is_number ["value"] (PrD K P_is_number) := by

  refine T.F_is_number.ok sc_is_number (prdLen (n := 1) fun ds d h => by obtain ⟨_, rfl, _⟩ := h; rfl) (fun cdv A outer s H vs Q E hr h => ?_)
  obtain ⟨ds, d, hd, ⟨i, rfl, rfl⟩, q⟩ := h
  obtain ⟨v, rfl, hv⟩ := dps1 hd
  refine ⟨_, (pss_one (ps_ret (pe_and (pe_callB (r := rIsi K) call_isi (by rfl) T.z_isinstance boot_isinstance (pa_cons (pv 0) (pa_cons (pe_bltn (v := .ty "int") (by rfl) T.z_int boot_int rfl) pa_nil))) (pe_one (pe_not (pe_callB (r := rIsi K) call_isi (by rfl) T.z_isinstance boot_isinstance (pa_cons (pv 0) (pa_cons (pe_bltn (v := .ty "bool") (by rfl) T.z_bool boot_bool rfl) pa_nil)))))))), ?_⟩
  have h0 : EvD K (tVar 0) (start ["value"] [v]) H (.int i) := edV rfl hv
  exact sRet (edIs (edAnd (edIsi h0 kII) fun _ => edNot (edIsi h0 kIB)) rfl) fun v H1 e hv => q v H1 e hv
theorem ok_is_spot (T : Tx K mg) : FnOk P w K mg base CX0 2 T.a_is_spot T.d_is_spot ["triangle", "row", "place"] (PrD K Q_spot) := by
  have G_is_number : FnOk P w K mg base CX0 1 T.a_is_number T.d_is_number ["value"] (PrD K P_is_number) := ok_is_number T
  refine T.F_is_spot.ok sc_is_spot (prdLen (n := 3) fun ds d h => by obtain ⟨_, _, _, _, _, rfl, _⟩ := h; rfl) (fun cdv A outer s H vs Q E hr h => ?_)
  obtain ⟨ds, d, hd, ⟨n, g, r, p, tri, rfl, rfl⟩, q⟩ := h
  obtain ⟨v, a, b, rfl, hv, ha, hb⟩ := dps3 hd
  refine ⟨_, (pss_cons (ps_if (PW.pt (pw_or (pt_not (pt_val (pe_call G_is_number (hr.mono (by decide)) (by rfl) T.g_is_number T.F_is_number.kp T.b_is_number .nil pass0 (pa_cons (pv 1) pa_nil)))) (pw_or1 (pt_not (pt_val (pe_call G_is_number (hr.mono (by decide)) (by rfl) T.g_is_number T.F_is_number.kp T.b_is_number .nil pass0 (pa_cons (pv 2) pa_nil))))))) (pss_one (ps_ret pe_bl)) pss_nil)
    (pss_one (ps_ret (pe_and (pe_chain op_le op_lt pe_int (pv 1) (pe_callB (r := lenR K) call_lenR (by rfl) T.z_len boot_len (pa_cons (pv 0) pa_nil))) (pe_one (pe_chain op_le op_lt pe_int (pv 2) (pe_callB (r := lenR K) call_lenR (by rfl) T.z_len boot_len (pa_cons (pe_ix (r := rIxL K) ix_list (pv 0) (pv 1) (fun _ _ => rfl)) pa_nil)))))))), ?_⟩
  have lo := tri.lo
  have hi := tri.hi
  have h1 : EvD K (tVar 1) (start ["triangle", "row", "place"] [v, a, b]) H (.int r) := edV rfl ha
  have h2 : EvD K (tVar 2) (start ["triangle", "row", "place"] [v, a, b]) H (.int p) := edV rfl hb
  have h0 : EvD K (tVar 0) (start ["triangle", "row", "place"] [v, a, b]) H (.list (triD n g)) := edV rfl hv
  refine qSkip (orFF (notT (etV (edCall (aCons h1 aNil) ⟨_, rfl, rfl⟩))) (notT (etV (edCall (aCons h2 aNil) ⟨_, rfl, rfl⟩)))) fun H1 e1 => ?_
  have l1 : EvD K _ _ H1 _ := edLenL (K := K) (h0.up e1)
  rw [triLen] at l1
  refine sRet (edIs (edAnd (b := decide (0 ≤ p) && decide (p < (n : Int) - r)) (edChain ev_c (evI (h1.up e1)) (evI l1) (fun _ => rv_I0) fun _ => rv_I0) fun hb => ?_) ?_) fun v' H2 e2 hv' => q v' H2 (e1.trans e2) hv'
  · rw [Bool.and_eq_true] at hb
    have b1 : 0 ≤ r := of_decide_eq_true hb.1
    have b2 : r < (n : Int) := of_decide_eq_true hb.2
    obtain ⟨r', rfl⟩ : ∃ r' : Nat, r = r' := ⟨r.toNat, by omega⟩
    have l2 : EvD K _ _ H1 _ := edLenS (K := K) (edIxL (h0.up e1) (h1.up e1) (triAt (by omega))) (by rw [rowLen]; omega)
    rw [rowLen, show ((n - r' : Nat) : Int) = (n : Int) - (r' : Int) by omega] at l2
    exact edChain ev_c (evI (h2.up e1)) (evI l2) (fun _ => rv_I0) fun _ => rv_I0
  · refine congrArg PyData.bool ?_
    unfold spotB
    rw [Bool.eq_iff_iff]
    simp only [Bool.and_eq_true, decide_eq_true_eq]
    omega
theorem ok_corners (T : Tx K mg) : FnOk P w K mg base CX0 1 T.a_corners T.d_corners ["small"] (PrN K Q_corners) := by

  refine T.F_corners.ok sc_corners (prnLen (n := 1) fun ds d h => by obtain ⟨_, _, _, _, rfl, _⟩ := h; rfl) (fun cdv A outer s H vs Q E hr h => ?_)
  obtain ⟨ds, es, hd, ⟨r, p, u, hu, rfl, rfl⟩, q⟩ := h
  obtain ⟨v, rfl, hv⟩ := dps1 hd
  refine ⟨_, (pss_cons (ps_asg (pv 0) (pg_tup rfl (pgs_cons (pg_name (i := 1) sc_corners.nd rfl (.inl rfl)) (pgs_cons (pg_name (i := 2) sc_corners.nd rfl (.inl rfl)) (pgs_cons (pg_name (i := 3) sc_corners.nd rfl (.inl rfl)) pgs_nil)))))
    (pss_cons (ps_if (pt_cmpR (r := rEqD K) (op_eqD hr.units) (pv 3) pe_int (nomark _)) (pss_one (ps_ret (pe_lst (pa_cons (pe_tup (pa_cons (pv 1) (pa_cons (pv 2) pa_nil))) (pa_cons (pe_tup (pa_cons (pv 1) (pa_cons (pe_op op_add (pv 2) pe_int) pa_nil))) (pa_cons (pe_tup (pa_cons (pe_op op_add (pv 1) pe_int) (pa_cons (pv 2) pa_nil))) pa_nil)))))) pss_nil)
    (pss_one (ps_ret (pe_lst (pa_cons (pe_tup (pa_cons (pv 1) (pa_cons (pe_op op_add (pv 2) pe_int) pa_nil))) (pa_cons (pe_tup (pa_cons (pe_op op_add (pv 1) pe_int) (pa_cons (pe_op op_add (pv 2) pe_int) pa_nil))) (pa_cons (pe_tup (pa_cons (pe_op op_add (pv 1) pe_int) (pa_cons (pv 2) pa_nil))) pa_nil)))))))), ?_⟩
  refine qTup3 (edV rfl hv) fun a b c H1 e1 ha hb hc => ?_
  have ha := dpInt ha
  have hb := dpInt hb
  have hc := dpInt hc
  subst ha hb hc
  have n1 : ∀ {H : Hp} {σ : L2.St} {i : Nat} {x : Int}, σ[i]? = some (some (.int x)) → EvD K (tVar i) σ H (.int x) := fun h => edV h (.int _)
  refine q_when (etC (edEqI (n1 rfl) (edI ev_c))) (fun hb H2 e2 => ?_) (fun hb H2 e2 => ?_)
  · have e0 : u = 1 := of_decide_eq_true hb
    subst e0
    refine sRetN (enIs (enLst (aCons (edTup (aCons (n1 rfl) (aCons (n1 rfl) aNil)) (Nat.le_of_ble_eq_true rfl)) (aCons (edTup (aCons (n1 rfl) (aCons (edI2 (n1 rfl) (edI ev_c) rfl) aNil)) (Nat.le_of_ble_eq_true rfl)) (aCons (edTup (aCons (edI2 (n1 rfl) (edI ev_c) rfl) (aCons (n1 rfl) aNil)) (Nat.le_of_ble_eq_true rfl)) aNil))) (Nat.le_of_ble_eq_true rfl)) rfl) fun l xs H3 hl e3 h3 h4 => q l xs H3 (fresh_back (e1.trans e2) hl) ((e1.trans e2).trans e3) h3 h4
  · have e0 : u = 0 := by
      have h9 : ¬ u = 1 := of_decide_eq_false hb
      omega
    subst e0
    refine sRetN (enIs (enLst (aCons (edTup (aCons (n1 rfl) (aCons (edI2 (n1 rfl) (edI ev_c) rfl) aNil)) (Nat.le_of_ble_eq_true rfl)) (aCons (edTup (aCons (edI2 (n1 rfl) (edI ev_c) rfl) (aCons (edI2 (n1 rfl) (edI ev_c) rfl) aNil)) (Nat.le_of_ble_eq_true rfl)) (aCons (edTup (aCons (edI2 (n1 rfl) (edI ev_c) rfl) (aCons (n1 rfl) aNil)) (Nat.le_of_ble_eq_true rfl)) aNil))) (Nat.le_of_ble_eq_true rfl)) rfl) fun l xs H3 hl e3 h3 h4 => q l xs H3 (fresh_back (e1.trans e2) hl) ((e1.trans e2).trans e3) h3 h4
theorem ok_is_small (T : Tx K mg) : FnOk P w K mg base CX0 3 T.a_is_small T.d_is_small ["triangle", "small"] (PrD K Q_small) := by
  have G_is_number : FnOk P w K mg base CX0 1 T.a_is_number T.d_is_number ["value"] (PrD K P_is_number) := ok_is_number T
  have G_is_spot : FnOk P w K mg base CX0 2 T.a_is_spot T.d_is_spot ["triangle", "row", "place"] (PrD K Q_spot) := ok_is_spot T
  have G_corners : FnOk P w K mg base CX0 1 T.a_corners T.d_corners ["small"] (PrN K Q_corners) := ok_corners T
  refine T.F_is_small.ok sc_is_small (prdLen (n := 2) fun ds d h => by obtain ⟨_, _, _, _, _, _, rfl, _⟩ := h; rfl) (fun cdv A outer s H vs Q E hr h => ?_)
  obtain ⟨ds, d, hd, ⟨n, g, r, p, u, tri, rfl, rfl⟩, q⟩ := h
  obtain ⟨v, a, rfl, hv, ha⟩ := dps2 hd
  refine ⟨_, (pss_cons (ps_if (PW.pt (pw_or (pt_not (pt_val (pe_callB (r := rIsi K) call_isi (by rfl) T.z_isinstance boot_isinstance (pa_cons (pv 1) (pa_cons (pe_bltn (v := .ty "tuple") (by rfl) T.z_tuple boot_tuple rfl) pa_nil))))) (pw_or1 (pt_cmpR (r := rNeD K) (op_neD hr.units) (pe_callB (r := lenR K) call_lenR (by rfl) T.z_len boot_len (pa_cons (pv 1) pa_nil)) pe_int (nomark _))))) (pss_one (ps_ret pe_bl)) pss_nil)
    (pss_cons (ps_if (PW.pt (pw_or (pt_not (pt_val (pe_callB (r := rAll K) (cr_all rfl) (by rfl) T.z_all boot_all (pa_cons (pe_lc (own := [("part", 2)]) (g := gName 2) (tt := tYes) rfl sc_is_small.nd (pi_tup (pv 1)) (blkOk_by (N := ["triangle", "small", "part", "row", "place"]) (sc := defScope s_is_small) (by decide +kernel)) (fun _ _ _ _ _ => (pg_name (i := 2) sc_is_small.nd rfl (.inl rfl))) (fun _ _ _ _ _ => pts_nil) (fun _ _ _ _ _ => (pe_call G_is_number (hr.mono (by decide)) (by rfl) T.g_is_number T.F_is_number.kp T.b_is_number .nil pass0 (pa_cons (pv 2) pa_nil)))) pa_nil)))) (pw_or1 (pt_cmpR (r := rIn K true) op_notIn_seq (pe_ix (r := rIxT K) ix_tup (pv 1) pe_int (fun _ _ => rfl)) (pe_tup (pa_cons pe_int (pa_cons pe_int pa_nil))) (by with_unfolding_all rfl))))) (pss_one (ps_ret pe_bl)) pss_nil)
    (pss_one (ps_ret (pe_callB (r := rAll K) (cr_all rfl) (by rfl) T.z_all boot_all (pa_cons (pe_lc (own := [("row", 3), ("place", 4)]) (g := gTup K 2 (gCons (gName 3) (gCons (gName 4) gNil))) (tt := tYes) rfl sc_is_small.nd (pi_list (pe_call G_corners (hr.mono (by decide)) (by rfl) T.g_corners T.F_corners.kp T.b_corners .nil pass0 (pa_cons (pv 1) pa_nil))) (blkOk_by (N := ["triangle", "small", "part", "row", "place"]) (sc := defScope s_is_small) (by decide +kernel)) (fun _ _ _ _ _ => (pg_tup rfl (pgs_cons (pg_name (i := 3) sc_is_small.nd rfl (.inl rfl)) (pgs_cons (pg_name (i := 4) sc_is_small.nd rfl (.inl rfl)) pgs_nil)))) (fun _ _ _ _ _ => pts_nil) (fun _ _ _ _ _ => (pe_call G_is_spot (hr.mono (by decide)) (by rfl) T.g_is_spot T.F_is_spot.kp T.b_is_spot .nil pass0 (pa_cons (pv 0) (pa_cons (pv 3) (pa_cons (pv 4) pa_nil)))))) pa_nil)))))), ?_⟩
  have h1 : EvD K (tVar 1) (start ["triangle", "small", "part", "row", "place"] [v, a]) H (smZ r p u) := edV rfl ha
  refine qSkip (orFF (notT (etV (edIsi h1 kTT))) (etC (edIs (edNeI (edLenT h1) (edI ev_c)) rfl))) fun H1 e1 => ?_
  have h1 := h1.up e1
  refine q_when (b := !decide (u = 0 ∨ u = 1)) (et_is (et_or (notT (etV (edAllT (L := [r, p, u]) (enLcA [r, p, u] (fun i => .int i) (fun _ => .bool true) (idT h1) (Nat.le_of_ble_eq_true rfl) (fun _ _ => by rw [noL]) fun i _ H3 x e3 hx => ?_)))) fun _ => etC (edIn (neg := true) (b := !decide (u = 0 ∨ u = 1)) (w := .int u) (ws := [.int 0, .int 1]) (edIxT h1 (edI ev_c) (atNat (j := 2) rfl)) (edTup (aCons (edI ev_c) (aCons (edI ev_c) aNil)) (by decide)) rfl rfl rfl rfl (inUp u))) (Bool.false_or _)) (fun hb H2 e2 => ?_) (fun hb H2 e2 => ?_)
  · exact ⟨_, tgName, rfl, edCall (aCons (edV rfl hx) aNil) ⟨_, rfl, rfl⟩⟩
  · rw [Bool.not_eq_true', decide_eq_false_iff_not] at hb
    refine sRet (edIs (edB ev_c) (congrArg PyData.bool ?_)) fun v' H3 e3 hv' => q v' H3 ((e1.trans e2).trans e3) hv'
    refine (decide_eq_false fun z => hb ?_).symm
    rcases z with z | z
    · exact .inr z.1
    · exact .inl z.1
  · rw [Bool.not_eq_false', decide_eq_true_eq] at hb
    have h1 := h1.up e2
    refine sRet (edIs (edAll (bs := (crnZ r p u).map fun s => spotB n s.1 s.2) (edN (enIs (enLcA (crnZ r p u) spZ (fun s => .bool (spotB n s.1 s.2)) (idL (edN (enCall (aCons h1 aNil) ⟨r, p, u, hb, rfl, rfl⟩))) (by unfold crnZ; split <;> exact Nat.le_of_ble_eq_true rfl) (fun _ _ => by rw [noL]) fun s hs H3 x e3 hx => ?_) (by rw [List.map_map]; rfl)))) (congrArg PyData.bool ?_)) fun v' H3 e3 hv' => q v' H3 ((e1.trans e2).trans e3) hv'
    · obtain ⟨a1, b1, ha1, hb1, hg⟩ := tgTup2 (i := 3) (j := 4) (σ1 := wipe _ _) hx
      exact ⟨_, hg, rfl, edCall (aCons (edV rfl (dpUp ((e1.trans e2).trans e3) hv)) (aCons (edV rfl ha1) (aCons (edV rfl hb1) aNil))) ⟨n, g, s.1, s.2, tri, rfl, rfl⟩⟩
    · rw [List.all_map, ← crnAll hb]
      rfl
theorem ok_letters_at (T : Tx K mg) : FnOk P w K mg base CX0 1 T.a_letters_at T.d_letters_at ["triangle", "spots"] (PrD K Q_letters_at) := by

  refine T.F_letters_at.ok sc_letters_at (prdLen (n := 2) fun ds d h => by obtain ⟨_, _, _, _, _, _, h, _⟩ := h; rcases h with rfl | rfl <;> rfl) (fun cdv A outer s H vs Q E hr h => ?_)
  obtain ⟨ds, d, hd, ⟨n, g, l, tri, hin, hl, hds, rfl⟩, q⟩ := h
  have hi := tri.hi
  obtain ⟨v, a, rfl, hv, sq⟩ : ∃ v a, vs = [v, a] ∧ Dp K H v (.list (triD n g)) ∧ IdD K (iSeq K (tVar 1)) (start ["triangle", "spots", "row", "place"] [v, a]) H (l.map spD) := by
    rcases hds with rfl | rfl
    · obtain ⟨v, a, rfl, hv, ha⟩ := dps2 hd
      exact ⟨v, a, rfl, hv, idSeqL (edV rfl ha)⟩
    · obtain ⟨v, a, rfl, hv, ha⟩ := dps2 hd
      exact ⟨v, a, rfl, hv, idSeqT (edV rfl ha)⟩
  refine ⟨_, (pss_one (ps_ret (pe_joinR pe_str (pe_lc (own := [("row", 2), ("place", 3)]) (g := gTup K 2 (gCons (gName 2) (gCons (gName 3) gNil))) (tt := tYes) rfl sc_letters_at.nd (pi_seq (pv 1)) (blkOk_by (N := ["triangle", "spots", "row", "place"]) (sc := defScope s_letters_at) (by decide +kernel)) (fun _ _ _ _ _ => (pg_tup rfl (pgs_cons (pg_name (i := 2) sc_letters_at.nd rfl (.inl rfl)) (pgs_cons (pg_name (i := 3) sc_letters_at.nd rfl (.inl rfl)) pgs_nil)))) (fun _ _ _ _ _ => pts_nil) (fun _ _ _ _ _ => (pe_ix (r := rIxS) ix_str (pe_ix (r := rIxL K) ix_list (pv 0) (pv 2) (fun _ _ => rfl)) (pv 3) (fun _ _ => rfl))))))), ?_⟩
  refine sRet (edIs (edJoin (a := "") (ys := (ltr g l).map fun c => (⟨#[c]⟩ : Str)) (edS ev_c) (edN (enIs (enLcA l spD (fun s => .str ⟨#[g s.1 s.2]⟩) sq (by omega) (fun _ _ => by rw [noL]) fun s hs H3 x e3 hx => ?_) (ltrSigns g l))) ?_) (by rw [joinSigns])) fun v' H3 e3 hv' => q v' H3 e3 hv'
  · obtain ⟨a1, b1, ha1, hb1, hg⟩ := tgTup2 (i := 2) (j := 3) (σ1 := wipe _ _) hx
    have hs2 := hin s hs
    exact ⟨_, hg, rfl, edIxS (edIxL (edV rfl (dpUp e3 hv)) (edV rfl ha1) (triAt (by omega))) (edV rfl hb1) (by rw [rowLen]; omega) (rowAt (by omega))⟩
  · rw [signsSum]
    unfold ltr
    rw [List.length_map, List.length_map, List.length_map]
    show l.length + l.length * 0 ≤ _
    omega
theorem ok_turn_of (T : Tx K mg) : FnOk P w K mg base CX0 2 T.a_turn_of T.d_turn_of ["triangle", "small"] (PrD K P_turn_of) := by
  have G_corners : FnOk P w K mg base CX0 1 T.a_corners T.d_corners ["small"] (PrN K Q_corners) := ok_corners T
  have G_letters_at : FnOk P w K mg base CX0 1 T.a_letters_at T.d_letters_at ["triangle", "spots"] (PrD K Q_letters_at) := ok_letters_at T
  refine T.F_turn_of.ok sc_turn_of (prdLen (n := 2) fun ds d h => by obtain ⟨_, _, _, _, _, rfl, _⟩ := h; rfl) (fun cdv A outer s H vs Q E hr h => ?_)
  obtain ⟨ds, d, hd, ⟨n, g, ⟨r, p, u⟩, tri, sm, rfl, rfl⟩, q⟩ := h
  obtain ⟨v, a, rfl, hv, ha⟩ := dps2 hd
  refine ⟨_, (pss_cons (ps_set (i := 2) sc_turn_of.nd rfl (.inl rfl) (pe_call G_letters_at (hr.mono (by decide)) (by rfl) T.g_letters_at T.F_letters_at.kp T.b_letters_at .nil pass0 (pa_cons (pv 0) (pa_cons (pe_call G_corners (hr.mono (by decide)) (by rfl) T.g_corners T.F_corners.kp T.b_corners .nil pass0 (pa_cons (pv 1) pa_nil)) pa_nil))))
    (pss_cons (ps_if (pt_cmpR (r := rIn K false) op_in_seq (pv 2) (pe_glob (v := .ref T.a_LEFT_ROUNDS) (by rfl) T.g_LEFT_ROUNDS rfl) (by with_unfolding_all rfl)) (pss_one (ps_ret pe_int)) pss_nil)
    (pss_cons (ps_if (pt_cmpR (r := rIn K false) op_in_seq (pv 2) (pe_glob (v := .ref T.a_RIGHT_ROUNDS) (by rfl) T.g_RIGHT_ROUNDS rfl) (by with_unfolding_all rfl)) (pss_one (ps_ret (pe_un un_neg pe_int))) pss_nil)
    (pss_one (ps_ret pe_int))))), ?_⟩
  have hu := isU sm
  obtain ⟨c1, c2, c3, hcs, htr⟩ := trnAs g sm
  have ok3 : Code c1 ∧ Code c2 ∧ Code c3 := by
    have all : ∀ c ∈ (crn r p u).map (fun s => g s.1 s.2), Code c := fun c hc => by
      obtain ⟨s, _, rfl⟩ := List.mem_map.mp hc
      exact tri.ok _ _
    rw [hcs] at all
    exact ⟨all _ (by simp), all _ (by simp), all _ (by simp)⟩
  have hltr : ltr g (crn r p u) = [c1, c2, c3] := hcs
  refine qAsg (d := .str (w3 c1 c2 c3)) (edCall (aCons (edV rfl hv) (aCons (edN (enIs (enCall (aCons (edV rfl ha) aNil) ⟨r, p, u, by rcases hu with h | h; exact .inl (congrArg _ h); exact .inr (congrArg _ h), rfl, rfl⟩) crnNat)) aNil)) ⟨n, g, crn r p u, tri, crnIn sm, by rw [crnLen]; decide, .inl rfl, by rw [hltr]; rfl⟩) fun t H1 e1 ht => ?_
  have inn : ∀ {H2 : Hp} {b : Bool} {xs : List Str} {a0 : Addr}, Ex H1 H2 → (∀ H, SqT K H a0 (xs.map V.str)) → inV (.str (w3 c1 c2 c3)) (xs.map V.str) = b →
      EvD K (tOp (rIn K false) (tVar 2) (tC (.ref a0))) [some v, some a, some t] H2 (.bool b) := fun {H2 b xs a0} e hk hb =>
    edIn (w := .str (w3 c1 c2 c3)) (ws := xs.map V.str) (ds := xs.map .str) (edV rfl (dpUp e ht)) (edE ev_c fun H3 => .tup (hk H3) (by
      clear hb hk
      induction xs with
      | nil => exact .nil
      | cons x xs ih => exact .cons (.str x) ih)) rfl (by rw [List.map_map, List.map_map]; rfl) rfl (by rw [List.all_map, List.all_eq_true]; exact fun _ _ => rfl) hb
  have l1 := leftIs ok3.1 ok3.2.1 ok3.2.2
  have l2 := rightIs ok3.1 ok3.2.1 ok3.2.2
  have l3 := turnIs ok3.1 ok3.2.1 ok3.2.2
  rw [htr] at q
  refine q_when (etC (inn (xs := ["abc", "bca", "cab"]) (Ex.refl _) T.k_LEFT_ROUNDS l1)) (fun hb H2 e2 => ?_) (fun hb H2 e2 => ?_)
  · rw [of_decide_eq_true hb] at q
    exact sRet (edI ev_c) fun v' H3 e3 hv' => q v' H3 ((e1.trans e2).trans e3) hv'
  · refine q_when (etC (inn (xs := ["acb", "cba", "bac"]) e2 T.k_RIGHT_ROUNDS l2)) (fun hb2 H3 e3 => ?_) (fun hb2 H3 e3 => ?_)
    · rw [of_decide_eq_true hb2] at q
      exact sRet (edI (ev_un ev_c ru_neg)) fun v' H4 e4 hv' => q v' H4 (((e1.trans e2).trans e3).trans e4) hv'
    · rcases l3 with l3 | l3 | l3
      · exact absurd l3 (of_decide_eq_false hb)
      · exact absurd l3 (of_decide_eq_false hb2)
      · rw [l3] at q
        exact sRet (edI ev_c) fun v' H4 e4 hv' => q v' H4 (((e1.trans e2).trans e3).trans e4) hv'

end
end Dt

namespace Dt
open PySem L2 Evl PyProof.Rows
section
variable {P : Program} {w : World} {K : PySem.W.Frag} {mg : Str → Option Value} {base : Heap}
/-! rows and triangles -/
theorem ok_is_row (T : Tx K mg) : FnOk P w K mg base CX0 1 T.a_is_row T.d_is_row ["row", "many"] (PrD K P_is_row) := by

  refine T.F_is_row.ok sc_is_row (prdLen (n := 2) fun ds d h => by obtain ⟨_, _, _, _, _, rfl, _⟩ := h; rfl) (fun cdv A outer s H vs Q E hr h => ?_)
  obtain ⟨ds, d, hd, ⟨n, g, r, tri, hrn, rfl, rfl⟩, q⟩ := h
  obtain ⟨v, m, rfl, hv, hm⟩ := dps2 hd
  refine ⟨_, (pss_one (ps_ret (pe_and (pe_callB (r := rIsi K) call_isi (by rfl) T.z_isinstance boot_isinstance (pa_cons (pv 0) (pa_cons (pe_bltn (v := .ty "str") (by rfl) T.z_str boot_str rfl) pa_nil))) (pe_and (pe_cmpR (r := rEqD K) (op_eqD hr.units) (pe_callB (r := lenR K) call_lenR (by rfl) T.z_len boot_len (pa_cons (pv 0) pa_nil)) (pv 1) (nomark _)) (pe_one (pe_callB (r := rAll K) (cr_all rfl) (by rfl) T.z_all boot_all (pa_cons (pe_lc (own := [("letter", 2)]) (g := gName 2) (tt := tYes) rfl sc_is_row.nd (pi_str (pv 0)) (blkOk_by (N := ["row", "many", "letter"]) (sc := defScope s_is_row) (by decide +kernel)) (fun _ _ _ _ _ => (pg_name (i := 2) sc_is_row.nd rfl (.inl rfl))) (fun _ _ _ _ _ => pts_nil) (fun _ _ _ _ _ => (pe_cmpR (r := rIn K false) op_in_seq (pv 2) (pe_glob (v := .ref T.a_LETTERS) (by rfl) T.g_LETTERS rfl) (by with_unfolding_all rfl)))) pa_nil))))))), ?_⟩
  have hn := tri.hi
  have h0 : EvD K (tVar 0) (start ["row", "many", "letter"] [v, m]) H (.str (rowS n g r)) := edV rfl hv
  have h1 : EvD K (tVar 1) (start ["row", "many", "letter"] [v, m]) H (.int (n - r : Nat)) := edV rfl hm
  refine sRet (edIs (edAnd (edIsi h0 kSS) fun _ => edAnd (edEqI (edLenS h0 (by rw [rowLen]; omega)) h1) fun _ => edAllT (L := (rowS n g r).cps.toList) (enLcA (rowS n g r).cps.toList (fun c => .str ⟨#[c]⟩) (fun _ => .bool true) (idStr h0) ?_ (fun _ _ => by rw [noL]) fun c hc H1 x e hx => ?_)) ?_) fun v H1 e hv => q v H1 e hv
  · rw [rowCps, List.length_map, List.length_range]
    omega
  · refine ⟨_, tgName, rfl, ?_⟩
    have hcc : Code c := by
      rw [rowCps] at hc
      obtain ⟨p, _, rfl⟩ := List.mem_map.mp hc
      exact tri.ok r p
    exact edIn (b := true) (ws := [.str "a", .str "b", .str "c"]) (edV rfl hx) (edE ev_c fun H1 => letD (T.k_LETTERS H1)) rfl rfl rfl rfl (inLet hcc)
  · rw [rowLen, decide_eq_true rfl]
    rfl
theorem ok_is_triangle (T : Tx K mg) : FnOk P w K mg base CX0 2 T.a_is_triangle T.d_is_triangle ["triangle"] (PrD K P_is_triangle) := by
  have G_is_row : FnOk P w K mg base CX0 1 T.a_is_row T.d_is_row ["row", "many"] (PrD K P_is_row) := ok_is_row T
  refine T.F_is_triangle.ok sc_is_triangle (prdLen (n := 1) fun ds d h => by obtain ⟨_, _, _, rfl, _⟩ := h; rfl) (fun cdv A outer s H vs Q E hr h => ?_)
  obtain ⟨ds, d, hd, ⟨n, g, tri, rfl, rfl⟩, q⟩ := h
  obtain ⟨v, rfl, hv⟩ := dps1 hd
  refine ⟨_, (pss_cons (ps_if (PW.pt (pw_or (pt_not (pt_val (pe_callB (r := rIsi K) call_isi (by rfl) T.z_isinstance boot_isinstance (pa_cons (pv 0) (pa_cons (pe_bltn (v := .ty "list") (by rfl) T.z_list boot_list rfl) pa_nil))))) (pw_or1 (pt_cmpR op_lt (pe_callB (r := lenR K) call_lenR (by rfl) T.z_len boot_len (pa_cons (pv 0) pa_nil)) pe_int (nomark _))))) (pss_one (ps_ret pe_bl)) pss_nil)
    (pss_cons (ps_set (i := 1) sc_is_triangle.nd rfl (.inr rfl) (pe_callB (r := lenR K) call_lenR (by rfl) T.z_len boot_len (pa_cons (pv 0) pa_nil)))
    (pss_one (ps_ret (pe_callB (r := rAll K) (cr_all rfl) (by rfl) T.z_all boot_all (pa_cons (pe_lc (own := [("at", 2), ("row", 3)]) (g := gTup K 2 (gCons (gName 2) (gCons (gName 3) gNil))) (tt := tYes) rfl sc_is_triangle.nd (pi_enum (by rfl) T.z_enumerate (pa_cons (pv 0) pa_nil)) (blkOk_by (N := ["triangle", "many", "at", "row"]) (sc := defScope s_is_triangle) (by decide +kernel)) (fun _ _ _ _ _ => (pg_tup rfl (pgs_cons (pg_name (i := 2) sc_is_triangle.nd rfl (.inl rfl)) (pgs_cons (pg_name (i := 3) sc_is_triangle.nd rfl (.inl rfl)) pgs_nil)))) (fun _ _ _ _ _ => pts_nil) (fun _ _ _ _ _ => (pe_call G_is_row (hr.mono (by decide)) (by rfl) T.g_is_row T.F_is_row.kp T.b_is_row .nil pass0 (pa_cons (pv 3) (pa_cons (pe_op op_sub (pv 1) (pv 2)) pa_nil))))) pa_nil)))))), ?_⟩
  have lo := tri.lo
  have hi := tri.hi
  have h0 : EvD K (tVar 0) (start ["triangle", "many", "at", "row"] [v]) H (.list (triD n g)) := edV rfl hv
  refine qSkip (orFF (notT (etV (edIsi h0 kLL))) (et_is (etC (edLt (edLenL h0) (edI ev_c))) (by rw [triLen]; exact decide_eq_false (by omega)))) fun H1 e1 => ?_
  refine qAsg (edLenL (h0.up e1)) fun m H2 e2 hm => ?_
  rw [triLen] at hm
  have hv2 := dpUp (e1.trans e2) hv
  refine sRet (edAllT (L := List.range n) (enLcA (List.range n) (fun r => .tuple [.int (r : Nat), .str (rowS n g r)]) (fun _ => .bool true) ?_ (by rw [List.length_range]; omega) (fun _ _ => by rw [noL]) fun r hrn H3 x e3 hx => ?_)) fun v' H3 e3 hv' => q v' H3 ((e1.trans e2).trans e3) hv'
  · refine idIs (idEnum (aCons (edV rfl hv2) aNil)) ?_
    unfold triD
    rw [mapIdxRange]
  · rw [List.mem_range] at hrn
    obtain ⟨a, b, ha, hb, hg⟩ := tgTup2 (i := 2) (j := 3) (σ1 := wipe _ _) hx
    refine ⟨_, hg, rfl, edCall (aCons (edV rfl hb) (aCons (edI2 (edV rfl (dpUp e3 hm)) (edV rfl ha) rfl) aNil)) ⟨n, g, r, tri, hrn, ?_, rfl⟩⟩
    rw [show ((n - r : Nat) : Int) = (n : Int) - (r : Int) by omega]
theorem ok_check_triangle (T : Tx K mg) : FnOk P w K mg base CX0 3 T.a_check_triangle T.d_check_triangle ["triangle"] (PrD K P_check_triangle) := by
  have G_is_triangle : FnOk P w K mg base CX0 2 T.a_is_triangle T.d_is_triangle ["triangle"] (PrD K P_is_triangle) := ok_is_triangle T
  refine T.F_check_triangle.ok sc_check_triangle (prdLen (n := 1) fun ds d h => by obtain ⟨_, _, _, rfl, _⟩ := h; rfl) (fun cdv A outer s H vs Q E hr h => ?_)
  obtain ⟨ds, d, hd, ⟨n, g, tri, rfl, rfl⟩, q⟩ := h
  obtain ⟨v, rfl, hv⟩ := dps1 hd
  refine ⟨_, (pss_one (ps_if (pt_not (pt_val (pe_call G_is_triangle (hr.mono (by decide)) (by rfl) T.g_is_triangle T.F_is_triangle.kp T.b_is_triangle .nil pass0 (pa_cons (pv 0) pa_nil)))) (pss_one ps_never) pss_nil)), ?_⟩
  exact sSkip (notT (etV (edCall (aCons (edV rfl hv) aNil) ⟨n, g, tri, rfl, rfl⟩))) fun H1 e1 => q .non H1 e1 .non

end
end Dt

namespace Dt
open PySem L2 Evl PyProof.Rows
section
variable {P : Program} {w : World} {K : PySem.W.Frag} {mg : Str → Option Value} {base : Heap}
/-! all small triangles, the full ones -/
theorem ok_all_smalls (T : Tx K mg) : FnOk P w K mg base CX0 1 T.a_all_smalls T.d_all_smalls ["triangle"] (PrN K P_all_smalls) := by

  refine T.F_all_smalls.ok sc_all_smalls (prnLen (n := 1) fun ds d h => by obtain ⟨_, _, _, rfl, _⟩ := h; rfl) (fun cdv A outer s H vs Q E hr h => ?_)
  obtain ⟨ds, es, hd, ⟨n, g, tri, rfl, rfl⟩, q⟩ := h
  obtain ⟨v, rfl, hv⟩ := dps1 hd
  refine ⟨_, (pss_cons (ps_set (i := 1) sc_all_smalls.nd rfl (.inl rfl) (pe_lst pa_nil))
    (pss_cons (ps_for PassesOwn.never rfl (pi_range1 (by rfl) T.z_range (pa_cons (pe_op op_sub (pe_callB (r := lenR K) call_lenR (by rfl) T.z_len boot_len (pa_cons (pv 0) pa_nil)) pe_int) pa_nil)) (pg_name (i := 2) sc_all_smalls.nd rfl (.inl rfl))
      (pss_cons (ps_set (i := 3) sc_all_smalls.nd rfl (.inl rfl) (pe_op op_sub (pe_callB (r := lenR K) call_lenR (by rfl) T.z_len boot_len (pa_cons (pe_ix (r := rIxL K) ix_list (pv 0) (pv 2) (fun _ _ => rfl)) pa_nil)) pe_int))
    (pss_one (ps_for PassesOwn.never rfl (pi_range1 (by rfl) T.z_range (pa_cons (pe_op op_add (pv 3) pe_int) pa_nil)) (pg_name (i := 4) sc_all_smalls.nd rfl (.inl rfl))
      (pss_cons (ps_if (pt_cmpR op_lt (pv 4) (pv 3) (nomark _)) (pss_one (ps_expr (pe_bm PySem.F.plainAttrs_list PySem.F.slot_list_append PySem.F.type_list_append mt_append (pv 1) (pa_cons (pe_tup (pa_cons (pv 2) (pa_cons (pv 4) (pa_cons pe_int pa_nil)))) pa_nil)))) pss_nil)
    (pss_one (ps_expr (pe_bm PySem.F.plainAttrs_list PySem.F.slot_list_append PySem.F.type_list_append mt_append (pv 1) (pa_cons (pe_tup (pa_cons (pv 2) (pa_cons (pv 4) (pa_cons pe_int pa_nil)))) pa_nil)))))))))
    (pss_one (ps_ret (pv 1))))), ?_⟩
  have lo := tri.lo
  have hi := tri.hi
  have n1 : ∀ {H : Hp} {σ : L2.St} {i : Nat} {x : Int}, σ[i]? = some (some (.int x)) → EvD K (tVar i) σ H (.int x) := fun h => edV h (.int _)
  refine qAsgN (K := K) (enLst aNil (by decide)) fun p xs H1 hp e1 hxs hds => ?_
  have hv1 := dpUp e1 hv
  have len1 : EvD K _ [some v, some (.ref p), none, none, none] H1 _ := edI2 (K := K) (edLenL (K := K) (te := tVar 0) (edV rfl hv1)) (cI 1) (g := fun i j => .int (i - j)) rfl
  rw [triLen] at len1
  refine q_forR1 (evA1 (aCons len1 aNil)) (by omega) (fun i σ' H' => (∃ y2 y3 y4, σ' = [some v, some (.ref p), y2, y3, y4]) ∧ Grow K H p (((List.range i).flatMap (smRow n)).map smD) H') (fun H2 e2 => ⟨⟨_, _, _, rfl⟩, (growNew hp e1 hxs hds (by rw [noLs])).up e2⟩) ?_ ?_
  · rintro i σ' H' hin ⟨⟨y2, y3, y4, rfl⟩, gr⟩
    have hv2 : Dp K H' v (.list (triD n g)) := dpUp gr.2.1 hv
    have hin : i < n - 1 := by omega
    have len2 : EvD K _ [some v, some (.ref p), some (.int (i : Nat)), y3, y4] H' _ := edI2 (K := K) (edLenS (K := K) (edIxL (ta := tVar 0) (tb := tVar 2) (edV rfl hv2) (n1 rfl) (triAt (g := g) (by omega : i < n))) (by rw [rowLen]; omega)) (cI 2) (g := fun i j => .int (i - j)) rfl
    rw [rowLen] at len2
    refine qAsg len2 fun l H2 e2 hl => ?_
    have hl := dpInt hl
    subst hl
    refine s_forR1 (evA1 (aCons (edI2 (n1 rfl) (edI ev_c) rfl) aNil)) (by omega) (fun j σ' H' => (∃ y4, σ' = [some v, some (.ref p), some (.int (i : Nat)), some (.int (((n - i : Nat) : Int) - 2)), y4]) ∧ Grow K H p ((((List.range i).flatMap (smRow n)) ++ (List.range j).flatMap (smAt n i)).map smD) H') (fun H3 e3 => ⟨⟨_, rfl⟩, ((gr.up e2).up e3).eq (by simp)⟩) ?_ ?_
    · rintro j σ' H3 hj ⟨⟨y4, rfl⟩, gr⟩
      have hj : j < n - i - 1 := by omega
      have few : ∀ k, k ≤ j + 1 → ((((List.range i).flatMap (smRow n)) ++ (List.range k).flatMap (smAt n i)).map smD).length ≤ 30000 := fun k hk => by
        have z1 := smLen n i
        have z2 := smRowLen n i k
        have z3 : i * (n * 2) ≤ 100 * 200 := Nat.mul_le_mul (by omega) (by omega)
        rw [List.length_map, List.length_append]
        omega
      have step : ((List.range i).flatMap (smRow n) ++ (List.range (j + 1)).flatMap (smAt n i)).map smD = ((List.range i).flatMap (smRow n) ++ (List.range j).flatMap (smAt n i)).map smD ++ (smAt n i j).map smD := by
        rw [List.range_succ, List.flatMap_append, ← List.append_assoc, List.map_append]
        simp
      have one : ∀ {H : Hp} {u : Nat}, EvD K (tTup (tCons (tVar 2) (tCons (tVar 4) (tCons (tC (.int (u : Nat))) tNil)))) [some v, some (.ref p), some (.int (i : Nat)), some (.int (((n - i : Nat) : Int) - 2)), some (.int (j : Nat))] H (smD (i, j, u)) := fun {H u} => edTup (aCons (n1 rfl) (aCons (n1 rfl) (aCons (edI ev_c) aNil))) (Nat.le_of_ble_eq_true rfl)
      refine q_when (etC (edLt (n1 rfl) (n1 rfl))) (fun hb H4 e4 => ?_) (fun hb H4 e4 => ?_)
      · have hb : (j : Int) < ((n - i : Nat) : Int) - 2 := of_decide_eq_true hb
        have e0 : smAt n i j = [(i, j, 0), (i, j, 1)] := if_pos (by omega)
        refine sApp (gr.up e4) rfl (one (u := 0)) (smD_noL _) (by have := few j (by omega); omega) fun H5 gr5 => ?_
        refine sApp gr5 rfl (one (u := 1)) (smD_noL _) (by have := few j (by omega); rw [List.length_append, List.length_singleton]; omega) fun H6 gr6 => ⟨⟨_, rfl⟩, gr6.eq ?_⟩
        rw [step, e0, List.append_assoc]
        rfl
      · have hb : ¬ (j : Int) < ((n - i : Nat) : Int) - 2 := of_decide_eq_false hb
        have e0 : smAt n i j = [(i, j, 1)] := if_neg (by omega)
        refine sApp (gr.up e4) rfl (one (u := 1)) (smD_noL _) (by have := few j (by omega); omega) fun H6 gr6 => ⟨⟨_, rfl⟩, gr6.eq ?_⟩
        rw [step, e0]
        rfl
    · rintro σ' H3 ⟨⟨y4, rfl⟩, gr⟩
      refine ⟨⟨_, _, _, rfl⟩, gr.eq ?_⟩
      rw [show ((((n - i : Nat) : Int) - 2) + 1).toNat = n - i - 1 by omega, List.range_succ, List.flatMap_append]
      simp [smRow]
  · rintro σ' H' ⟨⟨y2, y3, y4, rfl⟩, h1, h2, h3, xs, h4, h5⟩
    refine ⟨_, rfl, q p xs H' h1 h2 h4 ?_⟩
    rw [show (((n : Nat) : Int) - 1).toNat = n - 1 by omega] at h5
    exact h5
theorem ok_fulls (T : Tx K mg) : FnOk P w K mg base CX0 4 T.a_fulls T.d_fulls ["triangle"] (PrN K P_fulls) := by
  have G_check_triangle : FnOk P w K mg base CX0 3 T.a_check_triangle T.d_check_triangle ["triangle"] (PrD K P_check_triangle) := ok_check_triangle T
  have G_all_smalls : FnOk P w K mg base CX0 1 T.a_all_smalls T.d_all_smalls ["triangle"] (PrN K P_all_smalls) := ok_all_smalls T
  have G_turn_of : FnOk P w K mg base CX0 2 T.a_turn_of T.d_turn_of ["triangle", "small"] (PrD K P_turn_of) := ok_turn_of T
  refine T.F_fulls.ok sc_fulls (prnLen (n := 1) fun ds d h => by obtain ⟨_, _, _, rfl, _⟩ := h; rfl) (fun cdv A outer s H vs Q E hr h => ?_)
  obtain ⟨ds, es, hd, ⟨n, g, tri, rfl, rfl⟩, q⟩ := h
  obtain ⟨v, rfl, hv⟩ := dps1 hd
  refine ⟨_, (pss_cons (ps_expr (pe_call G_check_triangle (hr.mono (by decide)) (by rfl) T.g_check_triangle T.F_check_triangle.kp T.b_check_triangle .nil pass0 (pa_cons (pv 0) pa_nil)))
    (pss_one (ps_ret (pe_lc (own := [("small", 1)]) (g := gName 1) (tt := _) rfl sc_fulls.nd (pi_list (pe_call G_all_smalls (hr.mono (by decide)) (by rfl) T.g_all_smalls T.F_all_smalls.kp T.b_all_smalls .nil pass0 (pa_cons (pv 0) pa_nil))) (blkOk_by (N := ["triangle", "small"]) (sc := defScope s_fulls) (by decide +kernel)) (fun _ _ _ _ _ => (pg_name (i := 1) sc_fulls.nd rfl (.inl rfl))) (fun _ _ _ _ _ => pts_one (pt_cmpR (r := rNeD K) (op_neD hr.units) (pe_call G_turn_of (hr.mono (by decide)) (by rfl) T.g_turn_of T.F_turn_of.kp T.b_turn_of .nil pass0 (pa_cons (pv 0) (pa_cons (pv 1) pa_nil))) pe_int (nomark _))) (fun _ _ _ _ _ => (pv 1)))))), ?_⟩
  have hi := tri.hi
  refine qDrop (edCall (aCons (edV rfl hv) aNil) ⟨n, g, tri, rfl, rfl⟩) fun H1 e1 => ?_
  have hv1 := dpUp e1 hv
  refine sRetN (enLc (smAll n) smD (fun s => !decide (trn g s = 0)) smD (idL (edN (enCall (aCons (edV rfl hv1) aNil) ⟨n, g, tri, rfl, rfl⟩))) (by have := smAllLen hi; omega) (fun s _ _ => smD_noL s) fun s hs H2 x e2 hx => ?_) fun l xs H5 hl e5 h5 h6 => q l xs H5 (fresh_back e1 hl) (e1.trans e5) h5 h6
  exact ⟨_, tgName, rfl, etC (edNeI (edCall (aCons (edV rfl (dpUp e2 hv1)) (aCons (edV rfl hx) aNil)) ⟨n, g, s, tri, smAll_is hs, rfl, rfl⟩) (edI ev_c)), fun _ => edV rfl hx⟩

end
end Dt

namespace Dt
open PySem L2 Evl PyProof.Rows
section
variable {P : Program} {w : World} {K : PySem.W.Frag} {mg : Str → Option Value} {base : Heap}
/-! the side, its steps -/
theorem ok_side_spots (T : Tx K mg) : FnOk P w K mg base CX0 1 T.a_side_spots T.d_side_spots ["triangle"] (PrN K Q_side_spots) := by

  refine T.F_side_spots.ok sc_side_spots (prnLen (n := 1) fun ds d h => by obtain ⟨_, _, _, rfl, _⟩ := h; rfl) (fun cdv A outer s H vs Q E hr h => ?_)
  obtain ⟨ds, es, hd, ⟨n, g, tri, rfl, rfl⟩, q⟩ := h
  obtain ⟨v, rfl, hv⟩ := dps1 hd
  refine ⟨_, (pss_cons (ps_set (i := 1) sc_side_spots.nd rfl (.inr rfl) (pe_op op_sub (pe_callB (r := lenR K) call_lenR (by rfl) T.z_len boot_len (pa_cons (pv 0) pa_nil)) pe_int))
    (pss_cons (ps_setLc (i := 2) (own := [("place", 5)]) (g := gName 5) (tt := tYes) rfl sc_side_spots.nd rfl rfl (sw_true rfl rfl rfl (by decide +kernel)) (pi_range1 (by rfl) T.z_range (pa_cons (pv 1) pa_nil)) (blkOk_by (N := ["triangle", "last", "below", "right", "left", "place", "row"]) (sc := defScope s_side_spots) (by decide +kernel)) (fun _ _ _ _ _ => (pg_name (i := 5) sc_side_spots.nd rfl (.inl rfl))) (fun _ _ _ _ _ => pts_nil) (fun _ _ _ _ _ => (pe_tup (pa_cons pe_int (pa_cons (pv 5) pa_nil)))))
    (pss_cons (ps_setLc (i := 3) (own := [("row", 6)]) (g := gName 6) (tt := tYes) rfl sc_side_spots.nd rfl rfl (sw_true rfl rfl rfl (by decide +kernel)) (pi_range1 (by rfl) T.z_range (pa_cons (pv 1) pa_nil)) (blkOk_by (N := ["triangle", "last", "below", "right", "left", "place", "row"]) (sc := defScope s_side_spots) (by decide +kernel)) (fun _ _ _ _ _ => (pg_name (i := 6) sc_side_spots.nd rfl (.inl rfl))) (fun _ _ _ _ _ => pts_nil) (fun _ _ _ _ _ => (pe_tup (pa_cons (pv 6) (pa_cons (pe_op op_sub (pv 1) (pv 6)) pa_nil)))))
    (pss_cons (ps_setLc (i := 4) (own := [("row", 6)]) (g := gName 6) (tt := tYes) rfl sc_side_spots.nd rfl rfl (sw_true rfl rfl rfl (by decide +kernel)) (pi_range3 (by rfl) T.z_range (pa_cons (pv 1) (pa_cons pe_int (pa_cons (pe_un un_neg pe_int) pa_nil)))) (blkOk_by (N := ["triangle", "last", "below", "right", "left", "place", "row"]) (sc := defScope s_side_spots) (by decide +kernel)) (fun _ _ _ _ _ => (pg_name (i := 6) sc_side_spots.nd rfl (.inl rfl))) (fun _ _ _ _ _ => pts_nil) (fun _ _ _ _ _ => (pe_tup (pa_cons (pv 6) (pa_cons pe_int pa_nil)))))
    (pss_one (ps_ret (pe_op op_cat (pe_op op_cat (pv 2) (pv 3)) (pv 4)))))))), ?_⟩
  have lo := tri.lo
  have hi := tri.hi
  have n1 : ∀ {H : Hp} {σ : L2.St} {i : Nat} {x : Int}, σ[i]? = some (some (.int x)) → EvD K (tVar i) σ H (.int x) := fun h => edV h (.int _)
  have len1 : EvD K _ (start ["triangle", "last", "below", "right", "left", "place", "row"] [v]) H _ := edI2 (K := K) (edLenL (K := K) (te := tVar 0) (edV rfl hv)) (cI 1) (g := fun i j => .int (i - j)) rfl
  rw [triLen] at len1
  refine qAsg len1 fun l H1 e1 hl => ?_
  have hl := dpInt hl
  subst hl
  have tn : ((n : Int) - 1).toNat = n - 1 := by omega
  have rg : ∀ {H : Hp} {σ : L2.St}, σ[1]? = some (some (.int ((n : Int) - 1))) → IdD K (iRng1 (tCons (tVar 1) tNil)) σ H ((List.range (n - 1)).map fun i => .int (i : Nat)) := fun {H σ} h => by
    have z := idR1 (H := H) (σ := σ) (aCons (edV (K := K) h (.int _)) aNil) (by omega) (by omega)
    rw [tn] at z
    exact z
  refine qAsgN (enLcA (List.range (n - 1)) (fun i => .int (i : Nat)) (fun p => spD (0, p)) (rg rfl) (by rw [List.length_range]; omega) (fun _ _ => spD_noL _) fun p _ H3 x e3 hx => ?_) fun p2 xs2 H2 hp2 e2 h2 d2 => ?_
  · have hx := dpInt hx
    subst hx
    exact ⟨_, tgName, rfl, edTup (aCons (edI ev_c) (aCons (n1 rfl) aNil)) (Nat.le_of_ble_eq_true rfl)⟩
  refine qAsgN (enLcA (List.range (n - 1)) (fun i => .int (i : Nat)) (fun r => spD (r, n - 1 - r)) (rg rfl) (by rw [List.length_range]; omega) (fun _ _ => spD_noL _) fun r hr H3 x e3 hx => ?_) fun p3 xs3 H3 hp3 e3 h3 d3 => ?_
  · have hx := dpInt hx
    subst hx
    rw [List.mem_range] at hr
    refine ⟨_, tgName, rfl, edIs (edTup (aCons (n1 rfl) (aCons (edI2 (n1 rfl) (n1 rfl) rfl) aNil)) (Nat.le_of_ble_eq_true rfl)) ?_⟩
    show PyData.tuple [.int (r : Nat), .int ((n : Int) - 1 - (r : Nat))] = .tuple [.int (r : Nat), .int ((n - 1 - r : Nat) : Int)]
    rw [show ((n - 1 - r : Nat) : Int) = (n : Int) - 1 - (r : Nat) by omega]
  have rg3 : ∀ {H : Hp} {σ : L2.St}, σ[1]? = some (some (.int ((n : Int) - 1))) → IdD K (iRng3 (tCons (tVar 1) (tCons (tC (.int 0)) (tCons (tUn (rU fun i => .int (-i)) (tC (.int 1))) tNil)))) σ H ((List.range (n - 1)).map fun k => .int ((n - 1 - k : Nat) : Int)) := fun {H σ} h => by
    have z := idR3 (H := H) (σ := σ) (aCons (edV (K := K) h (.int _)) (aCons (edI (ev_c (v := .int 0))) (aCons (edI (ev_un (ev_c (v := .int 1)) ru_neg)) aNil))) (RgC.neg (i := (n : Int) - 1) (j := 0) (by omega) (by omega) (by omega) (by omega))
    refine idIs z ?_
    rw [show ((n : Int) - 1 - 0).toNat = n - 1 by omega]
    refine List.map_congr_left fun k hk => ?_
    rw [List.mem_range] at hk
    rw [show (n : Int) - 1 + (k : Nat) * -1 = ((n - 1 - k : Nat) : Int) by omega]
  refine qAsgN (enLcA (List.range (n - 1)) (fun k => .int ((n - 1 - k : Nat) : Int)) (fun k => spD (n - 1 - k, 0)) (rg3 rfl) (by rw [List.length_range]; omega) (fun _ _ => spD_noL _) fun k _ H3 x e3 hx => ?_) fun p4 xs4 H4 hp4 e4 h4 d4 => ?_
  · have hx := dpInt hx
    subst hx
    exact ⟨_, tgName, rfl, edTup (aCons (n1 rfl) (aCons (edI ev_c) aNil)) (Nat.le_of_ble_eq_true rfl)⟩
  refine sRetN (enIs (enCatNV (enCatV (i := 2) (j := 3) rfl rfl (e4 _ _ (e3 _ _ h2)) (e4 _ _ h3) (dpsUp (e3.trans e4) d2) (dpsUp e4 d3) ?_) (j := 4) rfl h4 d4 ?_) ?_) fun l xs H5 hl e5 h5 h6 => q l xs H5 (fresh_back (((e1.trans e2).trans e3).trans e4) hl) ((((e1.trans e2).trans e3).trans e4).trans e5) h5 h6
  · rw [List.length_map, List.length_map, List.length_range]
    omega
  · rw [List.length_append, List.length_map, List.length_map, List.length_map, List.length_range]
    omega
  · unfold spots
    rw [List.map_append, List.map_append, List.map_map, List.map_map, List.map_map]
    rfl
theorem ok_side_steps (T : Tx K mg) : FnOk P w K mg base CX0 2 T.a_side_steps T.d_side_steps ["triangle"] (PrN K Q_side_steps) := by
  have G_side_spots : FnOk P w K mg base CX0 1 T.a_side_spots T.d_side_spots ["triangle"] (PrN K Q_side_spots) := ok_side_spots T
  refine T.F_side_steps.ok sc_side_steps (prnLen (n := 1) fun ds d h => by obtain ⟨_, _, _, rfl, _⟩ := h; rfl) (fun cdv A outer s H vs Q E hr h => ?_)
  obtain ⟨ds, es, hd, ⟨n, g, tri, rfl, rfl⟩, q⟩ := h
  obtain ⟨v, rfl, hv⟩ := dps1 hd
  refine ⟨_, (pss_cons (ps_set (i := 1) sc_side_steps.nd rfl (.inl rfl) (pe_call G_side_spots (hr.mono (by decide)) (by rfl) T.g_side_spots T.F_side_spots.kp T.b_side_spots .nil pass0 (pa_cons (pv 0) pa_nil)))
    (pss_one (ps_ret (pe_listZip rfl (by rfl) T.z_list (by rfl) T.z_zip (pa_cons (pv 1) (pa_cons (pe_op op_cat (pe_slice (r := rSlL K) sl_list (pv 1) (po_some pe_int) po_none) (pe_slice (r := rSlL K) sl_list (pv 1) po_none (po_some pe_int))) pa_nil)))))), ?_⟩
  have lo := tri.lo
  have hi := tri.hi
  refine qAsg (edN (enCall (aCons (edV rfl hv) aNil) ⟨n, g, tri, rfl, rfl⟩)) fun l H1 e1 hl => ?_
  refine sRetN (enIs (enListZip (aCons (edV rfl hl) (aCons (edN (enCat (enCut (edV rfl hl) (eo_some ev_c) eo_none) (enCut (edV rfl hl) eo_none (eo_some ev_c)) ?_)) aNil))) ?_) fun l xs H5 hl e5 h5 h6 => q l xs H5 (fresh_back e1 hl) (e1.trans e5) h5 h6
  · rw [cut1D, cutTo1D, List.length_drop, List.length_take, List.length_map, spotsLen]
    omega
  · rw [cut1D, cutTo1D, ← List.map_drop, ← List.map_take, ← List.map_append, List.zipWith_map]
    unfold steps rotP
    rw [List.zip_eq_zipWith, List.map_zipWith]
    rfl
theorem ok_is_door (T : Tx K mg) : FnOk P w K mg base CX0 2 T.a_is_door T.d_is_door ["triangle", "step"] (PrD K Q_is_door) := by
  have G_letters_at : FnOk P w K mg base CX0 1 T.a_letters_at T.d_letters_at ["triangle", "spots"] (PrD K Q_letters_at) := ok_letters_at T
  refine T.F_is_door.ok sc_is_door (prdLen (n := 2) fun ds d h => by obtain ⟨_, _, _, _, _, _, rfl, _⟩ := h; rfl) (fun cdv A outer s H vs Q E hr h => ?_)
  obtain ⟨ds, d, hd, ⟨n, g, ⟨s1, s2⟩, tri, h1, h2, rfl, rfl⟩, q⟩ := h
  obtain ⟨v, a, rfl, hv, ha⟩ := dps2 hd
  refine ⟨_, (pss_one (ps_ret (pe_cmpR (r := rIn K false) op_in_seq (pe_call G_letters_at (hr.mono (by decide)) (by rfl) T.g_letters_at T.F_letters_at.kp T.b_letters_at .nil pass0 (pa_cons (pv 0) (pa_cons (pv 1) pa_nil))) (pe_glob (v := .ref T.a_DOOR_STEPS) (by rfl) T.g_DOOR_STEPS rfl) (by with_unfolding_all rfl)))), ?_⟩
  have hstr : sOf (ltr g [s1, s2]) = ⟨#[(stC g (s1, s2)).1, (stC g (s1, s2)).2]⟩ := rfl
  exact sRet (edIn (w := .str ⟨#[(stC g (s1, s2)).1, (stC g (s1, s2)).2]⟩) (ws := [.str "ab", .str "ba"]) (ds := [.str "ab", .str "ba"]) (edIs (edCall (aCons (edV rfl hv) (aCons (edV rfl ha) aNil)) ⟨n, g, [s1, s2], tri, fun s hs => by
      rcases List.mem_cons.mp hs with rfl | hs
      · exact h1
      · rw [List.mem_singleton] at hs
        subst hs
        exact h2, by show 2 ≤ 10; decide, .inr rfl, rfl⟩) (by rw [hstr])) (edE ev_c fun H1 => .tup (T.k_DOOR_STEPS H1) (.cons (.str _) (.cons (.str _) .nil))) rfl rfl rfl rfl (inAB _ ⟨tri.ok _ _, tri.ok _ _⟩)) fun v' H3 e3 hv' => q v' H3 e3 hv'

end
end Dt

namespace Dt
open PySem L2 Evl PyProof.Rows
section
variable {P : Program} {w : World} {K : PySem.W.Frag} {mg : Str → Option Value} {base : Heap}
/-! the doors -/
theorem ok_doors (T : Tx K mg) : FnOk P w K mg base CX0 4 T.a_doors T.d_doors ["triangle"] (PrN K P_doors) := by
  have G_check_triangle : FnOk P w K mg base CX0 3 T.a_check_triangle T.d_check_triangle ["triangle"] (PrD K P_check_triangle) := ok_check_triangle T
  have G_side_steps : FnOk P w K mg base CX0 2 T.a_side_steps T.d_side_steps ["triangle"] (PrN K Q_side_steps) := ok_side_steps T
  have G_is_door : FnOk P w K mg base CX0 2 T.a_is_door T.d_is_door ["triangle", "step"] (PrD K Q_is_door) := ok_is_door T
  refine T.F_doors.ok sc_doors (prnLen (n := 1) fun ds d h => by obtain ⟨_, _, _, rfl, _⟩ := h; rfl) (fun cdv A outer s H vs Q E hr h => ?_)
  obtain ⟨ds, es, hd, ⟨n, g, tri, rfl, rfl⟩, q⟩ := h
  obtain ⟨v, rfl, hv⟩ := dps1 hd
  refine ⟨_, (pss_cons (ps_expr (pe_call G_check_triangle (hr.mono (by decide)) (by rfl) T.g_check_triangle T.F_check_triangle.kp T.b_check_triangle .nil pass0 (pa_cons (pv 0) pa_nil)))
    (pss_one (ps_ret (pe_lc (own := [("at", 1), ("step", 2)]) (g := gTup K 2 (gCons (gName 1) (gCons (gName 2) gNil))) (tt := _) rfl sc_doors.nd (pi_enum (by rfl) T.z_enumerate (pa_cons (pe_call G_side_steps (hr.mono (by decide)) (by rfl) T.g_side_steps T.F_side_steps.kp T.b_side_steps .nil pass0 (pa_cons (pv 0) pa_nil)) pa_nil)) (blkOk_by (N := ["triangle", "at", "step"]) (sc := defScope s_doors) (by decide +kernel)) (fun _ _ _ _ _ => (pg_tup rfl (pgs_cons (pg_name (i := 1) sc_doors.nd rfl (.inl rfl)) (pgs_cons (pg_name (i := 2) sc_doors.nd rfl (.inl rfl)) pgs_nil)))) (fun _ _ _ _ _ => pts_one (pt_val (pe_call G_is_door (hr.mono (by decide)) (by rfl) T.g_is_door T.F_is_door.kp T.b_is_door .nil pass0 (pa_cons (pv 0) (pa_cons (pv 2) pa_nil))))) (fun _ _ _ _ _ => (pv 1)))))), ?_⟩
  have lo := tri.lo
  have hi := tri.hi
  have sl := stepsLen n
  refine qDrop (edCall (aCons (edV rfl hv) aNil) ⟨n, g, tri, rfl, rfl⟩) fun H1 e1 => ?_
  refine sRetN (enIs (enLc (List.range (steps n).length) (fun i => .tuple [.int (i : Nat), stD ((steps n).getD i ((0, 0), 0, 0))]) (fun i => drB g ((steps n).getD i ((0, 0), 0, 0))) (fun i => .int (i : Nat)) (idIs (idEnum (aCons (edN (enCall (aCons (edV rfl (dpUp e1 hv)) aNil) ⟨n, g, tri, rfl, rfl⟩)) aNil)) ?_) (by rw [List.length_range]; omega) (fun _ _ _ => by rw [noL]) fun i hi H2 x e2 hx => ?_) ?_) fun l xs H5 hl e5 h5 h6 => q l xs H5 (fresh_back e1 hl) (e1.trans e5) h5 h6
  · rw [mapIdxGet (stD ((0, 0), 0, 0)), List.length_map]
    refine List.map_congr_left fun i hi => ?_
    rw [List.mem_range] at hi
    rw [List.getD_eq_getElem?_getD, List.getD_eq_getElem?_getD, List.getElem?_map, List.getElem?_eq_getElem hi]
    rfl
  · rw [List.mem_range] at hi
    obtain ⟨a1, b1, ha1, hb1, hg⟩ := tgTup2 (σ1 := wipe _ _) hx
    have hm : (steps n).getD i ((0, 0), 0, 0) ∈ steps n := by
      rw [List.getD_eq_getElem?_getD, List.getElem?_eq_getElem hi]
      exact List.getElem_mem hi
    obtain ⟨k1, k2⟩ := stepsIn lo _ hm
    exact ⟨_, hg, rfl, etV (edCall (aCons (edV rfl (dpUp (e1.trans e2) hv)) (aCons (edV rfl hb1) aNil)) ⟨n, g, _, tri, k1, k2, rfl, rfl⟩), fun _ => edV rfl ha1⟩
  · unfold doorsOf
    rw [← stepsPairs, List.length_map]
    refine congrArg (List.map _) (List.filter_congr fun i hi => ?_)
    rw [List.mem_range] at hi
    unfold drB
    have e : ((steps n).map (stC g)).getD i (0, 0) = stC g ((steps n).getD i ((0, 0), 0, 0)) := by
      rw [List.getD_eq_getElem?_getD, List.getD_eq_getElem?_getD, List.getElem?_map, List.getElem?_eq_getElem hi]
      rfl
    rw [e]

end
end Dt

namespace Dt
open PySem L2 Evl PyProof.Rows
section
variable {P : Program} {w : World} {K : PySem.W.Frag} {mg : Str → Option Value} {base : Heap}
/-! around -/
theorem ok_around (T : Tx K mg) : FnOk P w K mg base CX0 4 T.a_around T.d_around ["triangle"] (PrD K P_around) := by
  have G_check_triangle : FnOk P w K mg base CX0 3 T.a_check_triangle T.d_check_triangle ["triangle"] (PrD K P_check_triangle) := ok_check_triangle T
  have G_letters_at : FnOk P w K mg base CX0 1 T.a_letters_at T.d_letters_at ["triangle", "spots"] (PrD K Q_letters_at) := ok_letters_at T
  have G_side_steps : FnOk P w K mg base CX0 2 T.a_side_steps T.d_side_steps ["triangle"] (PrN K Q_side_steps) := ok_side_steps T
  refine T.F_around.ok sc_around (prdLen (n := 1) fun ds d h => by obtain ⟨_, _, _, rfl, _⟩ := h; rfl) (fun cdv A outer s H vs Q E hr h => ?_)
  obtain ⟨ds, d, hd, ⟨n, g, tri, rfl, rfl⟩, q⟩ := h
  obtain ⟨v, rfl, hv⟩ := dps1 hd
  refine ⟨_, (pss_cons (ps_expr (pe_call G_check_triangle (hr.mono (by decide)) (by rfl) T.g_check_triangle T.F_check_triangle.kp T.b_check_triangle .nil pass0 (pa_cons (pv 0) pa_nil)))
    (pss_cons (ps_setLc (i := 1) (own := [("step", 2)]) (g := gName 2) (tt := tYes) rfl sc_around.nd rfl rfl (sw_true rfl rfl rfl (by decide +kernel)) (pi_list (pe_call G_side_steps (hr.mono (by decide)) (by rfl) T.g_side_steps T.F_side_steps.kp T.b_side_steps .nil pass0 (pa_cons (pv 0) pa_nil))) (blkOk_by (N := ["triangle", "steps", "step"]) (sc := defScope s_around) (by decide +kernel)) (fun _ _ _ _ _ => (pg_name (i := 2) sc_around.nd rfl (.inl rfl))) (fun _ _ _ _ _ => pts_nil) (fun _ _ _ _ _ => (pe_call G_letters_at (hr.mono (by decide)) (by rfl) T.g_letters_at T.F_letters_at.kp T.b_letters_at .nil pass0 (pa_cons (pv 0) (pa_cons (pv 2) pa_nil)))))
    (pss_one (ps_ret (pe_op op_sub (pe_bm PySem.F.plainAttrs_list PySem.F.slot_list_count PySem.F.type_list_count mt_countS (pv 1) (pa_cons pe_str pa_nil)) (pe_bm PySem.F.plainAttrs_list PySem.F.slot_list_count PySem.F.type_list_count mt_countS (pv 1) (pa_cons pe_str pa_nil))))))), ?_⟩
  have lo := tri.lo
  have hi := tri.hi
  have sl := stepsLen n
  have pok := pairsOk (codesOk tri)
  refine qDrop (edCall (aCons (edV rfl hv) aNil) ⟨n, g, tri, rfl, rfl⟩) fun H1 e1 => ?_
  refine qAsg (d := .list ((pairs (codes n g)).map st2)) (edN (enIs (enLcA (steps n) stD (fun s => st2 (stC g s)) (idL (edN (enCall (aCons (edV rfl (dpUp e1 hv)) aNil) ⟨n, g, tri, rfl, rfl⟩))) (by omega) (fun _ _ => by unfold st2; rw [noL]) fun s hs H2 x e2 hx => ?_) ?_)) fun t H2 e2 ht => ?_
  · obtain ⟨k1, k2⟩ := stepsIn lo _ hs
    refine ⟨_, tgName, rfl, edIs (edCall (aCons (edV rfl (dpUp (e1.trans e2) hv)) (aCons (edV rfl hx) aNil)) ⟨n, g, [s.1, s.2], tri, fun z hz => ?_, by show 2 ≤ 10; decide, .inr rfl, rfl⟩) rfl⟩
    rcases List.mem_cons.mp hz with rfl | hz
    · exact k1
    · rw [List.mem_singleton] at hz
      subst hz
      exact k2
  · rw [← stepsPairs, List.map_map]
    rfl
  refine sRet (edIs (edI2 (evCount (edV rfl ht) (edS ev_c) rfl (st2s _) rfl (flat2 _)) (evCount (edV rfl ht) (edS ev_c) rfl (st2s _) rfl (flat2 _)) rfl) ?_) fun v' H3 e3 hv' => q v' H3 ((e1.trans e2).trans e3) hv'
  rw [countAB pok, countBA pok]
  rfl

end
end Dt

namespace Dt
open PySem L2 Evl PyProof.Rows
section
variable {P : Program} {w : World} {K : PySem.W.Frag} {mg : Str → Option Value} {base : Heap}
/-! turn -/
theorem ok_check_small (T : Tx K mg) : FnOk P w K mg base CX0 4 T.a_check_small T.d_check_small ["triangle", "small"] (PrD K P_check_small) := by
  have G_is_small : FnOk P w K mg base CX0 3 T.a_is_small T.d_is_small ["triangle", "small"] (PrD K Q_small) := ok_is_small T
  refine T.F_check_small.ok sc_check_small (prdLen (n := 2) fun ds d h => by obtain ⟨_, _, _, _, _, rfl, _⟩ := h; rfl) (fun cdv A outer s H vs Q E hr h => ?_)
  obtain ⟨ds, d, hd, ⟨n, g, ⟨r, p, u⟩, tri, hs, rfl, rfl⟩, q⟩ := h
  obtain ⟨v, a, rfl, hv, ha⟩ := dps2 hd
  refine ⟨_, (pss_one (ps_if (pt_not (pt_val (pe_call G_is_small (hr.mono (by decide)) (by rfl) T.g_is_small T.F_is_small.kp T.b_is_small .nil pass0 (pa_cons (pv 0) (pa_cons (pv 1) pa_nil))))) (pss_one ps_never) pss_nil)), ?_⟩
  exact sSkip (notT (etV (edCall (aCons (edV rfl hv) (aCons (edV rfl ha) aNil)) ⟨n, g, r, p, u, tri, rfl, by rw [smBOf hs]⟩))) fun H1 e1 => q .non H1 e1 .non
theorem ok_turn (T : Tx K mg) : FnOk P w K mg base CX0 5 T.a_turn T.d_turn ["triangle", "small"] (PrD K P_turn_of) := by
  have G_check_triangle : FnOk P w K mg base CX0 3 T.a_check_triangle T.d_check_triangle ["triangle"] (PrD K P_check_triangle) := ok_check_triangle T
  have G_check_small : FnOk P w K mg base CX0 4 T.a_check_small T.d_check_small ["triangle", "small"] (PrD K P_check_small) := ok_check_small T
  have G_turn_of : FnOk P w K mg base CX0 2 T.a_turn_of T.d_turn_of ["triangle", "small"] (PrD K P_turn_of) := ok_turn_of T
  refine T.F_turn.ok sc_turn (prdLen (n := 2) fun ds d h => by obtain ⟨_, _, _, _, _, rfl, _⟩ := h; rfl) (fun cdv A outer s H vs Q E hr h => ?_)
  obtain ⟨ds, d, hd, ⟨n, g, sm, tri, hs, rfl, rfl⟩, q⟩ := h
  obtain ⟨v, a, rfl, hv, ha⟩ := dps2 hd
  refine ⟨_, (pss_cons (ps_expr (pe_call G_check_triangle (hr.mono (by decide)) (by rfl) T.g_check_triangle T.F_check_triangle.kp T.b_check_triangle .nil pass0 (pa_cons (pv 0) pa_nil)))
    (pss_cons (ps_expr (pe_call G_check_small (hr.mono (by decide)) (by rfl) T.g_check_small T.F_check_small.kp T.b_check_small .nil pass0 (pa_cons (pv 0) (pa_cons (pv 1) pa_nil))))
    (pss_one (ps_ret (pe_call G_turn_of (hr.mono (by decide)) (by rfl) T.g_turn_of T.F_turn_of.kp T.b_turn_of .nil pass0 (pa_cons (pv 0) (pa_cons (pv 1) pa_nil))))))), ?_⟩
  refine qDrop (edCall (aCons (edV rfl hv) aNil) ⟨n, g, tri, rfl, rfl⟩) fun H1 e1 => ?_
  have hv1 := dpUp e1 hv
  have ha1 := dpUp e1 ha
  refine qDrop (edCall (aCons (edV rfl hv1) (aCons (edV rfl ha1) aNil)) ⟨n, g, sm, tri, hs, rfl, rfl⟩) fun H2 e2 => ?_
  exact sRet (edCall (aCons (edV rfl (dpUp e2 hv1)) (aCons (edV rfl (dpUp e2 ha1)) aNil)) ⟨n, g, sm, tri, hs, rfl, rfl⟩) fun v' H3 e3 hv' => q v' H3 ((e1.trans e2).trans e3) hv'

end
end Dt

namespace Dt
open PySem L2 Evl PyProof.Rows
section
variable {P : Program} {w : World} {K : PySem.W.Frag} {mg : Str → Option Value} {base : Heap}
/-! put -/
theorem ok_is_letter (T : Tx K mg) : FnOk P w K mg base CX0 1 T.a_is_letter T.d_is_letter ["value"] (PrD K P_is_letter) := by

  refine T.F_is_letter.ok sc_is_letter (prdLen (n := 1) fun ds d h => by obtain ⟨_, _, rfl, _⟩ := h; rfl) (fun cdv A outer s H vs Q E hr h => ?_)
  obtain ⟨ds, d, hd, ⟨c, hc, rfl, rfl⟩, q⟩ := h
  obtain ⟨v, rfl, hv⟩ := dps1 hd
  refine ⟨_, (pss_one (ps_ret (pe_and (pe_callB (r := rIsi K) call_isi (by rfl) T.z_isinstance boot_isinstance (pa_cons (pv 0) (pa_cons (pe_bltn (v := .ty "str") (by rfl) T.z_str boot_str rfl) pa_nil))) (pe_one (pe_cmpR (r := rIn K false) op_in_seq (pv 0) (pe_glob (v := .ref T.a_LETTERS) (by rfl) T.g_LETTERS rfl) (by with_unfolding_all rfl)))))), ?_⟩
  have h0 : EvD K (tVar 0) (start ["value"] [v]) H (.str ⟨#[c]⟩) := edV rfl hv
  exact sRet (edIs (edAnd (edIsi h0 kSS) fun _ => edIn (b := true) (ws := [.str "a", .str "b", .str "c"]) h0 (edE ev_c fun H1 => letD (T.k_LETTERS H1)) rfl rfl rfl rfl (inLet hc)) rfl) fun v H1 e hv => q v H1 e hv
theorem ok_put (T : Tx K mg) : FnOk P w K mg base CX0 4 T.a_put T.d_put ["triangle", "row", "place", "letter"] (PrN K P_put) := by
  have G_is_letter : FnOk P w K mg base CX0 1 T.a_is_letter T.d_is_letter ["value"] (PrD K P_is_letter) := ok_is_letter T
  have G_is_spot : FnOk P w K mg base CX0 2 T.a_is_spot T.d_is_spot ["triangle", "row", "place"] (PrD K Q_spot) := ok_is_spot T
  have G_check_triangle : FnOk P w K mg base CX0 3 T.a_check_triangle T.d_check_triangle ["triangle"] (PrD K P_check_triangle) := ok_check_triangle T
  refine T.F_put.ok sc_put (prnLen (n := 4) fun ds d h => by obtain ⟨_, _, _, _, _, _, _, _, rfl, _⟩ := h; rfl) (fun cdv A outer s H vs Q E hr h => ?_)
  obtain ⟨ds, es, hd, ⟨n, g, r, p, c, tri, hrp, hc, rfl, rfl⟩, q⟩ := h
  obtain ⟨v, a, b, l, rfl, hv, ha, hb, hl⟩ := dps4 hd
  refine ⟨_, (pss_cons (ps_expr (pe_call G_check_triangle (hr.mono (by decide)) (by rfl) T.g_check_triangle T.F_check_triangle.kp T.b_check_triangle .nil pass0 (pa_cons (pv 0) pa_nil)))
    (pss_cons (ps_if (pt_not (pt_val (pe_call G_is_spot (hr.mono (by decide)) (by rfl) T.g_is_spot T.F_is_spot.kp T.b_is_spot .nil pass0 (pa_cons (pv 0) (pa_cons (pv 1) (pa_cons (pv 2) pa_nil)))))) (pss_one ps_never) pss_nil)
    (pss_cons (ps_if (pt_not (pt_val (pe_call G_is_letter (hr.mono (by decide)) (by rfl) T.g_is_letter T.F_is_letter.kp T.b_is_letter .nil pass0 (pa_cons (pv 3) pa_nil)))) (pss_one ps_never) pss_nil)
    (pss_cons (ps_set (i := 4) sc_put.nd rfl (.inl rfl) (pe_callTy (r := rListS K) call_listR (by rfl) T.z_list boot_list (pa_cons (pv 0) pa_nil)))
    (pss_cons (ps_asg (pe_op op_addS (pe_op op_addS (pe_slice (r := rSlS) sl_str (pe_ix (r := rIxL K) ix_list (pv 4) (pv 1) (fun _ _ => rfl)) po_none (po_some (pv 2))) (pv 3)) (pe_slice (r := rSlS) sl_str (pe_ix (r := rIxL K) ix_list (pv 4) (pv 1) (fun _ _ => rfl)) (po_some (pe_op op_add (pv 2) pe_int)) po_none)) (pg_sub (pv 4) (pv 1) set_list))
    (pss_one (ps_ret (pv 4)))))))), ?_⟩
  have hi := tri.hi
  have ha := dpInt ha
  have hb := dpInt hb
  have hl := dpStr hl
  subst ha hb hl
  have n1 : ∀ {H : Hp} {σ : L2.St} {i : Nat} {x : Int}, σ[i]? = some (some (.int x)) → EvD K (tVar i) σ H (.int x) := fun h => edV h (.int _)
  have s1 : ∀ {H : Hp} {σ : L2.St} {i : Nat} {x : Str}, σ[i]? = some (some (.str x)) → EvD K (tVar i) σ H (.str x) := fun h => edV h (.str _)
  refine qDrop (edCall (aCons (edV rfl hv) aNil) ⟨n, g, tri, rfl, rfl⟩) fun H1 e1 => ?_
  have hv1 := dpUp e1 hv
  refine qSkip (notT (etV (edCall (aCons (edV rfl hv1) (aCons (n1 rfl) (aCons (n1 rfl) aNil))) ⟨n, g, (r : Nat), (p : Nat), tri, rfl, congrArg PyData.bool (decide_eq_true ⟨by omega, by omega, by omega⟩).symm⟩))) fun H2 e2 => ?_
  have hv2 := dpUp e2 hv1
  refine qSkip (notT (etV (edCall (aCons (s1 rfl) aNil) ⟨c, hc, rfl, rfl⟩))) fun H3 e3 => ?_
  have hv3 := dpUp e3 hv2
  refine qAsgN (enList (edV rfl hv3)) fun l xs H4 hlz e4 h4 d4 => ?_
  have row : EvD K (tOp (rIxL K) (tVar 4) (tVar 1)) [some v, some (.int (r : Nat)), some (.int (p : Nat)), some (.str ⟨#[c]⟩), some (.ref l)] H4 (.str (sOf ((List.range (n - r)).map (g r)))) := edIxL (edV rfl (dpOfL h4 d4)) (n1 rfl) (triAt (by omega))
  have rl : ((List.range (n - r)).map (g r)).length = n - r := by rw [List.length_map, List.length_range]
  have lt := edCutS row eo_none (eo_some (i := (p : Nat)) (ev_var (i := 2) rfl)) (by rw [sOfLen, rl]; omega)
  have rt := edCutS row (eo_some (evI (edI2 (n1 (i := 2) rfl) (cI 1) (g := fun i j => .int (i + j)) (k := ((p + 1 : Nat) : Int)) rfl))) eo_none (by rw [sOfLen, rl]; omega)
  rw [cutSTo] at lt
  rw [cutSFrom] at rt
  have mid := edAddS lt (s1 (i := 3) (x := sOf [c]) rfl) (by rw [sOfLen, sOfLen, List.length_take, rl]; simp; omega)
  rw [sOfApp] at mid
  have all := edAddS mid rt (by rw [sOfLen, sOfLen, List.length_append, List.length_take, List.length_drop, rl]; simp; omega)
  rw [sOfApp, putRow (by omega)] at all
  refine q_setL h4 (evS all) (ev_var rfl) (ev_var rfl) (by rw [dpsLen d4, triLen]; omega) fun H5 e5 => ?_
  have d5 := dpsTups (tupsMut (ys := xs.set r (.str (rowS n (putG g r p c) r))) (e5 _ _ h4)) (dpsUp e5 d4) (triNoL n g)
  have d6 := dpsSet r d5 (.str (rowS n (putG g r p c) r))
  rw [putTriD (by omega)] at d6
  exact ⟨.ref l, rfl, q l _ _ (fresh_back ((e1.trans e2).trans e3) hlz) ((((e1.trans e2).trans e3).trans (e4.trans e5)).mut (fresh_back ((e1.trans e2).trans e3) hlz)) upd_same d6⟩

end
end Dt

namespace Dt
open PySem L2 Evl PyProof.Rows
section
variable {P : Program} {w : World} {K : PySem.W.Frag} {mg : Str → Option Value} {base : Heap}
/-! the rule -/
theorem ok_breaks_rule (T : Tx K mg) : FnOk P w K mg base CX0 1 T.a_breaks_rule T.d_breaks_rule ["triangle", "row", "place"] (PrD K Q_breaks_rule) := by

  refine T.F_breaks_rule.ok sc_breaks_rule (prdLen (n := 3) fun ds d h => by obtain ⟨_, _, _, _, _, _, rfl, _⟩ := h; rfl) (fun cdv A outer s H vs Q E hr h => ?_)
  obtain ⟨ds, d, hd, ⟨n, g, r, p, tri, hrp, rfl, rfl⟩, q⟩ := h
  obtain ⟨v, a, b, rfl, hv, ha, hb⟩ := dps3 hd
  refine ⟨_, (pss_cons (ps_set (i := 3) sc_breaks_rule.nd rfl (.inl rfl) (pe_ix (r := rIxS) ix_str (pe_ix (r := rIxL K) ix_list (pv 0) (pv 1) (fun _ _ => rfl)) (pv 2) (fun _ _ => rfl)))
    (pss_cons (ps_if (PW.pt (pw_and (pt_cmpR (r := rEqD K) (op_eqD hr.units) (pv 1) pe_int (nomark _)) (pw_and1 (pt_cmpR (r := rEqD K) (op_eqD hr.units) (pv 3) pe_str (nomark _))))) (pss_one (ps_ret pe_bl)) pss_nil)
    (pss_cons (ps_if (PW.pt (pw_and (pt_cmpR (r := rEqD K) (op_eqD hr.units) (pv 2) pe_int (nomark _)) (pw_and1 (pt_cmpR (r := rEqD K) (op_eqD hr.units) (pv 3) pe_str (nomark _))))) (pss_one (ps_ret pe_bl)) pss_nil)
    (pss_one (ps_ret (pe_and (pe_cmpR (r := rEqD K) (op_eqD hr.units) (pv 2) (pe_op op_sub (pe_callB (r := lenR K) call_lenR (by rfl) T.z_len boot_len (pa_cons (pe_ix (r := rIxL K) ix_list (pv 0) (pv 1) (fun _ _ => rfl)) pa_nil)) pe_int) (nomark _)) (pe_one (pe_cmpR (r := rEqD K) (op_eqD hr.units) (pv 3) pe_str (nomark _))))))))), ?_⟩
  have hi := tri.hi
  have ha := dpInt ha
  have hb := dpInt hb
  subst ha hb
  have n1 : ∀ {H : Hp} {σ : L2.St} {i : Nat} {x : Int}, σ[i]? = some (some (.int x)) → EvD K (tVar i) σ H (.int x) := fun h => edV h (.int _)
  refine qAsg (edIxS (edIxL (edV rfl hv) (n1 rfl) (triAt (by omega : r < n))) (n1 rfl) (by rw [rowLen]; omega) (rowAt (by omega : p < n - r))) fun l H1 e1 hl => ?_
  have hl := dpStr hl
  subst hl
  have hv1 := dpUp e1 hv
  have s1 : ∀ {H : Hp} {σ : L2.St} {i : Nat} {x : Str}, σ[i]? = some (some (.str x)) → EvD K (tVar i) σ H (.str x) := fun h => edV h (.str _)
  have hc := tri.ok r p
  have t1 := et_and (etC (edEqI (K := K) (n1 (σ := [some v, some (.int (r : Nat)), some (.int (p : Nat)), some (.str ⟨#[g r p]⟩)]) (H := H1) (i := 1) rfl) (cI 0))) fun _ => etC (edEqC hc (.inr (.inr rfl)) isC (s1 (i := 3) rfl) (edS (ev_c (v := .str "c"))))
  have t2 : ∀ H2 : Hp, EvT _ _ H2 _ := fun H2 => et_and (etC (edEqI (K := K) (n1 (σ := [some v, some (.int (r : Nat)), some (.int (p : Nat)), some (.str ⟨#[g r p]⟩)]) (H := H2) (i := 2) rfl) (cI 0))) fun _ => etC (edEqC hc (.inr (.inl rfl)) isB (s1 (i := 3) rfl) (edS (ev_c (v := .str "b"))))
  have z0 : ∀ k : Nat, decide ((k : Int) = 0) = decide (k = 0) := fun k => by
    rw [Bool.eq_iff_iff, decide_eq_true_eq, decide_eq_true_eq]
    omega
  have q3 : ∀ (H2 : Hp) (v' : V), Ex H H2 → Dp K H2 v' (.bool (brk n g r p)) → Q v' H2 := fun H2 v' e hv' => q v' H2 e hv'
  unfold brk at q3
  refine q_when t1 (fun hb H2 e2 => ?_) (fun hb H2 e2 => ?_)
  · rw [z0] at hb
    rw [hb, Bool.true_or, Bool.true_or] at q3
    exact sRet (edB ev_c) fun v' H3 e3 hv' => q3 H3 v' ((e1.trans e2).trans e3) hv'
  · rw [z0] at hb
    rw [hb, Bool.false_or] at q3
    refine q_when (t2 H2) (fun hb2 H3 e3 => ?_) (fun hb2 H3 e3 => ?_)
    · rw [z0] at hb2
      rw [hb2, Bool.true_or] at q3
      exact sRet (edB ev_c) fun v' H4 e4 hv' => q3 H4 v' (((e1.trans e2).trans e3).trans e4) hv'
    · rw [z0] at hb2
      rw [hb2, Bool.false_or] at q3
      have l2 : EvD K _ [some v, some (.int (r : Nat)), some (.int (p : Nat)), some (.str ⟨#[g r p]⟩)] H3 _ := edI2 (K := K) (edLenS (K := K) (edIxL (ta := tVar 0) (tb := tVar 1) (edV rfl (dpUp (e2.trans e3) hv1)) (n1 rfl) (triAt (g := g) (by omega : r < n))) (by rw [rowLen]; omega)) (cI 1) (g := fun i j => .int (i - j)) rfl
      rw [rowLen] at l2
      refine sRet (edIs (edAnd (edEqI (n1 rfl) l2) fun _ => edEqC hc (.inl rfl) isA (s1 rfl) (edS (ev_c (v := .str "a")))) (congrArg PyData.bool ?_)) fun v' H4 e4 hv' => q3 H4 v' (((e1.trans e2).trans e3).trans e4) hv'
      congr 1
      rw [Bool.eq_iff_iff, decide_eq_true_eq, decide_eq_true_eq]
      omega

end
end Dt

namespace Dt
open PySem L2 Evl PyProof.Rows
section
variable {P : Program} {w : World} {K : PySem.W.Frag} {mg : Str → Option Value} {base : Heap}
/-! Full -/
theorem ok_Full___init__ (T : Tx K mg) : FnOk P w K mg base CX0 1 T.a_Full___init__ T.d_Full___init__ ["self", "row", "place", "up"] (SpIni3 T.C_Full) := by

  refine T.F_Full___init__.ok sc_Full___init__ (fun vs H Q E h => by obtain ⟨_, _, _, _, _, rfl, _⟩ := h; rfl) (fun cdv A outer s H vs Q E hr h => ?_)
  obtain ⟨x, dx, a, b, d, rfl, hx, q⟩ := h
  refine ⟨_, (pss_cons (ps_fld (pv 0) (pv 1) rfl)
    (pss_cons (ps_fld (pv 0) (pv 2) rfl)
    (pss_one (ps_fld (pv 0) (pv 3) rfl)))), ?_⟩
  refine ⟨a, rfl, .ref x, rfl, x, T.C_Full, dx, _, rfl, hx, T.o_Full.cl, T.n_Full_row, by show 0 < 1000; decide, ?_⟩
  refine ⟨b, rfl, .ref x, rfl, x, T.C_Full, dx, _, rfl, upd_same, T.o_Full.cl, T.n_Full_place, by show 1 < 1000; decide, ?_⟩
  refine ⟨d, rfl, .ref x, rfl, x, T.C_Full, dx, _, rfl, upd_same, T.o_Full.cl, T.n_Full_up, by rw [putNil, putTl nPR]; show 2 < 1000; decide, ?_⟩
  rw [upd_upd, upd_upd, putNil, putTl nPR, putNil, putTl nUR, putTl nUP, putNil]
  exact q
theorem ok_Full_shows (T : Tx K mg) : FnOk P w K mg base CX0 4 T.a_Full_shows T.d_Full_shows ["self", "triangle"] (SpFull K (kls T)) := by
  have G_is_small : FnOk P w K mg base CX0 3 T.a_is_small T.d_is_small ["triangle", "small"] (PrD K Q_small) := ok_is_small T
  have G_turn_of : FnOk P w K mg base CX0 2 T.a_turn_of T.d_turn_of ["triangle", "small"] (PrD K P_turn_of) := ok_turn_of T
  refine T.F_Full_shows.ok sc_Full_shows (fun vs H Q E h => by obtain ⟨_, _, _, _, _, _, _, _, rfl, _⟩ := h; rfl) (fun cdv A outer s H vs Q E hr h => ?_)
  obtain ⟨x, v, dx, n, g, r, p, u, rfl, tri, hv, hx, q⟩ := h
  refine ⟨_, (pss_cons (ps_set (i := 2) sc_Full_shows.nd rfl (.inl rfl) (pe_tup (pa_cons (pe_fld (pv 0) rfl) (pa_cons (pe_fld (pv 0) rfl) (pa_cons (pe_fld (pv 0) rfl) pa_nil)))))
    (pss_one (ps_ret (pe_and (pe_call G_is_small (hr.mono (by decide)) (by rfl) T.g_is_small T.F_is_small.kp T.b_is_small .nil pass0 (pa_cons (pv 1) (pa_cons (pv 2) pa_nil))) (pe_one (pe_cmpR (r := rNeD K) (op_neD hr.units) (pe_call G_turn_of (hr.mono (by decide)) (by rfl) T.g_turn_of T.F_turn_of.kp T.b_turn_of .nil pass0 (pa_cons (pv 1) (pa_cons (pv 2) pa_nil))) pe_int (nomark _))))))), ?_⟩
  have fl : ∀ {H1 : Hp} {σ : L2.St}, Ex H H1 → σ[0]? = some (some (.ref x)) → EvAD K (tCons (tFld K (tVar 0) "row") (tCons (tFld K (tVar 0) "place") (tCons (tFld K (tVar 0) "up") tNil))) σ H1 [.int r, .int p, .int u] := fun e h =>
    aCons (edFld (ev_var h) (e _ _ hx) T.o_Full.cl T.n_Full_row lkHd (.int r)) (aCons (edFld (ev_var h) (e _ _ hx) T.o_Full.cl T.n_Full_place ((lkTl nPR).trans lkHd) (.int p)) (aCons (edFld (ev_var h) (e _ _ hx) T.o_Full.cl T.n_Full_up ((lkTl nUR).trans ((lkTl nUP).trans lkHd)) (.int u)) aNil))
  refine qAsg (d := smZ r p u) (edTup (fl (Ex.refl H) rfl) (Nat.le_of_ble_eq_true rfl)) fun t H1 e1 ht => ?_
  have hv1 := dpUp e1 hv
  refine sRet (d := .bool (fullB n g r p u)) (edAnd (edCall (aCons (edV rfl hv1) (aCons (edV rfl ht) aNil)) ⟨n, g, r, p, u, tri, rfl, rfl⟩) fun hb => ?_) fun v' H2 e2 hv' => by rw [dpBl hv']; exact q H2 (e1.trans e2)
  obtain ⟨r', p', u', rfl, rfl, rfl, sm⟩ := smOfB hb
  exact edNeI (edCall (aCons (edV rfl hv1) (aCons (edV rfl ht) aNil)) ⟨n, g, (r', p', u'), tri, sm, rfl, rfl⟩) (edI ev_c)

end
end Dt

namespace Dt
open PySem L2 Evl PyProof.Rows
section
variable {P : Program} {w : World} {K : PySem.W.Frag} {mg : Str → Option Value} {base : Heap}
/-! Breaks -/
theorem ok_Breaks___init__ (T : Tx K mg) : FnOk P w K mg base CX0 1 T.a_Breaks___init__ T.d_Breaks___init__ ["self", "row", "place"] (SpIni2 T.C_Breaks) := by

  refine T.F_Breaks___init__.ok sc_Breaks___init__ (fun vs H Q E h => by obtain ⟨_, _, _, _, rfl, _⟩ := h; rfl) (fun cdv A outer s H vs Q E hr h => ?_)
  obtain ⟨x, dx, a, b, rfl, hx, q⟩ := h
  refine ⟨_, (pss_cons (ps_fld (pv 0) (pv 1) rfl)
    (pss_one (ps_fld (pv 0) (pv 2) rfl))), ?_⟩
  refine ⟨a, rfl, .ref x, rfl, x, T.C_Breaks, dx, _, rfl, hx, T.o_Breaks.cl, T.n_Breaks_row, by show 0 < 1000; decide, ?_⟩
  refine ⟨b, rfl, .ref x, rfl, x, T.C_Breaks, dx, _, rfl, upd_same, T.o_Breaks.cl, T.n_Breaks_place, by show 1 < 1000; decide, ?_⟩
  rw [upd_upd, putNil, putTl nPR, putNil]
  exact q
theorem ok_Breaks_shows (T : Tx K mg) : FnOk P w K mg base CX0 3 T.a_Breaks_shows T.d_Breaks_shows ["self", "triangle"] (SpBreaks K (kls T)) := by
  have G_is_spot : FnOk P w K mg base CX0 2 T.a_is_spot T.d_is_spot ["triangle", "row", "place"] (PrD K Q_spot) := ok_is_spot T
  have G_breaks_rule : FnOk P w K mg base CX0 1 T.a_breaks_rule T.d_breaks_rule ["triangle", "row", "place"] (PrD K Q_breaks_rule) := ok_breaks_rule T
  refine T.F_Breaks_shows.ok sc_Breaks_shows (fun vs H Q E h => by obtain ⟨_, _, _, _, _, _, _, rfl, _⟩ := h; rfl) (fun cdv A outer s H vs Q E hr h => ?_)
  obtain ⟨x, v, dx, n, g, r, p, rfl, tri, hv, hx, q⟩ := h
  refine ⟨_, (pss_one (ps_ret (pe_and (pe_call G_is_spot (hr.mono (by decide)) (by rfl) T.g_is_spot T.F_is_spot.kp T.b_is_spot .nil pass0 (pa_cons (pv 1) (pa_cons (pe_fld (pv 0) rfl) (pa_cons (pe_fld (pv 0) rfl) pa_nil)))) (pe_one (pe_call G_breaks_rule (hr.mono (by decide)) (by rfl) T.g_breaks_rule T.F_breaks_rule.kp T.b_breaks_rule .nil pass0 (pa_cons (pv 1) (pa_cons (pe_fld (pv 0) rfl) (pa_cons (pe_fld (pv 0) rfl) pa_nil)))))))), ?_⟩
  have fl : ∀ {H1 : Hp} {σ : L2.St}, Ex H H1 → σ[0]? = some (some (.ref x)) → EvAD K (tCons (tFld K (tVar 0) "row") (tCons (tFld K (tVar 0) "place") tNil)) σ H1 [.int r, .int p] := fun e h =>
    aCons (edFld (ev_var h) (e _ _ hx) T.o_Breaks.cl T.n_Breaks_row lkHd (.int r)) (aCons (edFld (ev_var h) (e _ _ hx) T.o_Breaks.cl T.n_Breaks_place ((lkTl nPR).trans lkHd) (.int p)) aNil)
  refine sRet (d := .bool (brkB n g r p)) (edAnd (edCall (aCons (edV rfl hv) (fl (Ex.refl H) rfl)) ⟨n, g, r, p, tri, rfl, rfl⟩) fun hb => ?_) fun v' H2 e2 hv' => by rw [dpBl hv']; exact q H2 e2
  have hb := of_decide_eq_true hb
  obtain ⟨r', rfl⟩ : ∃ r' : Nat, r = r' := ⟨r.toNat, by omega⟩
  obtain ⟨p', rfl⟩ : ∃ p' : Nat, p = p' := ⟨p.toNat, by omega⟩
  exact edCall (aCons (edV rfl hv) (fl (Ex.refl H) rfl)) ⟨n, g, r', p', tri, by omega, rfl, rfl⟩

end
end Dt

namespace Dt
open PySem L2 Evl PyProof.Rows
section
variable {P : Program} {w : World} {K : PySem.W.Frag} {mg : Str → Option Value} {base : Heap}
/-! Ended, Out -/
theorem ok_Ended___init__ (T : Tx K mg) : FnOk P w K mg base CX0 1 T.a_Ended___init__ T.d_Ended___init__ ["self", "smalls"] (SpIniE K T.C_Ended) := by

  refine T.F_Ended___init__.ok sc_Ended___init__ (fun vs H Q E h => by obtain ⟨_, _, _, _, rfl, _⟩ := h; rfl) (fun cdv A outer s H vs Q E hr h => ?_)
  obtain ⟨x, dx, a, xs, rfl, hs, hx, q⟩ := h
  refine ⟨_, (pss_one (ps_fld (pv 0) (pe_callTy (r := rListS K) call_listR (by rfl) T.z_list boot_list (pa_cons (pv 1) pa_nil)) rfl)), ?_⟩
  refine ⟨.ref a, rfl, a, xs, rfl, .inl hs, fun p hp => ⟨.ref x, rfl, x, T.C_Ended, dx, [], rfl, ?_, T.o_Ended.cl, T.n_Ended_smalls, by show 0 < 1000; decide, ?_⟩⟩
  · exact (upd_ne (ne_of_none hx hp)).trans hx
  · rw [putNil]
    exact q p hp
theorem ok_Out___init__ (T : Tx K mg) : FnOk P w K mg base CX0 1 T.a_Out___init__ T.d_Out___init__ ["self", "smalls", "door"] (SpIniO K T.C_Out) := by

  refine T.F_Out___init__.ok sc_Out___init__ (fun vs H Q E h => by obtain ⟨_, _, _, _, _, rfl, _⟩ := h; rfl) (fun cdv A outer s H vs Q E hr h => ?_)
  obtain ⟨x, dx, a, xs, d, rfl, hs, hx, q⟩ := h
  refine ⟨_, (pss_cons (ps_fld (pv 0) (pe_callTy (r := rListS K) call_listR (by rfl) T.z_list boot_list (pa_cons (pv 1) pa_nil)) rfl)
    (pss_one (ps_fld (pv 0) (pv 2) rfl))), ?_⟩
  refine ⟨.ref a, rfl, a, xs, rfl, .inl hs, fun p hp => ⟨.ref x, rfl, x, T.C_Out, dx, [], rfl, ?_, T.o_Out.cl, T.n_Out_smalls, by show 0 < 1000; decide, ?_⟩⟩
  · exact (upd_ne (ne_of_none hx hp)).trans hx
  · refine ⟨d, rfl, .ref x, rfl, x, T.C_Out, dx, _, rfl, upd_same, T.o_Out.cl, T.n_Out_door, by rw [putNil]; show 1 < 1000; decide, ?_⟩
    rw [upd_upd, putNil, putTl nDS, putNil]
    exact q p hp

end
end Dt

namespace Dt
open PySem L2 Evl PyProof.Rows
section
variable {P : Program} {w : World} {K : PySem.W.Frag} {mg : Str → Option Value} {base : Heap}
/-! told -/
theorem ok_told (T : Tx K mg) : FnOk P w K mg base CX0 5 T.a_told T.d_told ["triangle"] (PrA (kls T) K Q_told) := by
  have G_check_triangle : FnOk P w K mg base CX0 3 T.a_check_triangle T.d_check_triangle ["triangle"] (PrD K P_check_triangle) := ok_check_triangle T
  have G_breaks_rule : FnOk P w K mg base CX0 1 T.a_breaks_rule T.d_breaks_rule ["triangle", "row", "place"] (PrD K Q_breaks_rule) := ok_breaks_rule T
  have G_fulls : FnOk P w K mg base CX0 4 T.a_fulls T.d_fulls ["triangle"] (PrN K P_fulls) := ok_fulls T
  have G_Full___init__ : FnOk P w K mg base CX0 1 T.a_Full___init__ T.d_Full___init__ ["self", "row", "place", "up"] (SpIni3 T.C_Full) := ok_Full___init__ T
  have G_Breaks___init__ : FnOk P w K mg base CX0 1 T.a_Breaks___init__ T.d_Breaks___init__ ["self", "row", "place"] (SpIni2 T.C_Breaks) := ok_Breaks___init__ T
  refine T.F_told.ok sc_told (praLen (n := 1) fun ds d h => by obtain ⟨_, _, _, rfl, _⟩ := h; rfl) (fun cdv A outer s H vs Q E hr h => ?_)
  obtain ⟨ds, a, hd, ⟨n, g, tri, rfl, rfl⟩, q⟩ := h
  obtain ⟨v, rfl, hv⟩ := dps1 hd
  refine ⟨_, (pss_cons (ps_expr (pe_call G_check_triangle (hr.mono (by decide)) (by rfl) T.g_check_triangle T.F_check_triangle.kp T.b_check_triangle .nil pass0 (pa_cons (pv 0) pa_nil)))
    (pss_cons (ps_for PassesOwn.never rfl (pi_enum (by rfl) T.z_enumerate (pa_cons (pv 0) pa_nil)) (pg_tup rfl (pgs_cons (pg_name (i := 1) sc_told.nd rfl (.inl rfl)) (pgs_cons (pg_name (i := 2) sc_told.nd rfl (.inl rfl)) pgs_nil)))
      (pss_one (ps_for PassesOwn.never rfl (pi_range1 (by rfl) T.z_range (pa_cons (pe_callB (r := lenR K) call_lenR (by rfl) T.z_len boot_len (pa_cons (pv 2) pa_nil)) pa_nil)) (pg_name (i := 3) sc_told.nd rfl (.inl rfl))
      (pss_one (ps_if (pt_val (pe_call G_breaks_rule (hr.mono (by decide)) (by rfl) T.g_breaks_rule T.F_breaks_rule.kp T.b_breaks_rule .nil pass0 (pa_cons (pv 0) (pa_cons (pv 1) (pa_cons (pv 3) pa_nil))))) (pss_one (ps_ret (pe_make T.mk_Breaks G_Breaks___init__ (hr.mono (by decide)) (by rfl) T.g_Breaks T.b_Breaks___init__ .nil pass0 (pa_cons (pv 1) (pa_cons (pv 3) pa_nil))))) pss_nil)))))
    (pss_cons (ps_asg (pe_ix (r := rIxL K) ix_list (pe_call G_fulls (hr.mono (by decide)) (by rfl) T.g_fulls T.F_fulls.kp T.b_fulls .nil pass0 (pa_cons (pv 0) pa_nil)) pe_int (fun _ _ => rfl)) (pg_tup rfl (pgs_cons (pg_name (i := 1) sc_told.nd rfl (.inl rfl)) (pgs_cons (pg_name (i := 3) sc_told.nd rfl (.inl rfl)) (pgs_cons (pg_name (i := 4) sc_told.nd rfl (.inl rfl)) pgs_nil)))))
    (pss_one (ps_ret (pe_make T.mk_Full G_Full___init__ (hr.mono (by decide)) (by rfl) T.g_Full T.b_Full___init__ .nil pass0 (pa_cons (pv 1) (pa_cons (pv 3) (pa_cons (pv 4) pa_nil))))))))), ?_⟩
  have lo := tri.lo
  have hi := tri.hi
  refine qDrop (edCall (aCons (edV rfl hv) aNil) ⟨n, g, tri, rfl, rfl⟩) fun H1 e1 => ?_
  refine qFor (List.range n) (fun r => .tuple [.int (r : Nat), .str (rowS n g r)]) (idIs (idEnum (aCons (edV rfl (dpUp e1 hv)) aNil)) (by unfold triD; rw [mapIdxRange]))
    (fun i σ' => (∃ y1 y2 y3, σ' = [some v, y1, y2, y3, none]) ∧ ∀ r, r < i → ∀ p, p < n - r → brk n g r p = false) ⟨⟨_, _, _, rfl⟩, fun r hr => absurd hr (Nat.not_lt_zero _)⟩ ?_ ?_
  · rintro H0 e0 i r hri σ1 H2 x ⟨⟨y1, y2, y3, rfl⟩, old⟩ e2 hx
    obtain ⟨hin, rfl⟩ : i < n ∧ i = r := by
      have hl := (List.getElem?_eq_some_iff.mp hri).1
      rw [List.length_range] at hl
      rw [List.getElem?_range hl] at hri
      exact ⟨hl, Option.some.inj hri⟩
    obtain ⟨a1, b1, ha1, hb1, hg⟩ := tgTup2 (i := 1) (j := 2) (σ1 := [some v, y1, y2, y3, none]) hx
    have ha1 := dpInt ha1
    subst ha1
    refine hg _ ?_
    have e02 : Ex H H2 := (e1.trans e0).trans e2
    have len : EvD K _ [some v, some (.int (i : Nat)), some b1, y3, none] H2 _ := edLenS (K := K) (te := tVar 2) (edV rfl hb1) (by rw [rowLen]; omega)
    rw [rowLen] at len
    refine sFor (List.range (n - i)) (fun p => .int (p : Nat)) (idR1 (aCons len aNil) (by omega) (by omega)) (fun j σ' => (∃ y3, σ' = [some v, some (.int (i : Nat)), some b1, y3, none]) ∧ ∀ p, p < j → brk n g i p = false) ⟨⟨_, rfl⟩, fun p hp => absurd hp (Nat.not_lt_zero _)⟩ ?_ ?_
    · rintro H3 e3 j p hpj σ2 H4 x2 ⟨⟨y3, rfl⟩, oldp⟩ e4 hx2
      obtain ⟨hjn, rfl⟩ : j < n - i ∧ j = p := by
        have hl := (List.getElem?_eq_some_iff.mp hpj).1
        rw [List.length_range] at hl
        rw [List.getElem?_range hl] at hpj
        exact ⟨hl, Option.some.inj hpj⟩
      have hx2 := dpInt hx2
      subst hx2
      have e05 : Ex H H4 := (e02.trans e3).trans e4
      refine s_when (etV (edCall (aCons (edV rfl (dpUp e05 hv)) (aCons (edV (K := K) rfl (.int _)) (aCons (edV (K := K) rfl (.int _)) aNil))) ⟨n, g, i, j, tri, by omega, rfl, rfl⟩)) (fun hb H5 e5 => ?_) (fun hb H5 e5 => ?_)
      · have ft : toldOf n g = .breaks (i : Nat) (j : Nat) := by
          unfold toldOf
          rw [firstIs hin hjn old oldp hb]
        rw [ft] at q
        exact sRetA (eaBreaks (c := kls T) (aCons (edV (K := K) rfl (.int _)) (aCons (edV (K := K) rfl (.int _)) aNil))) fun y H6 hy e6 hn => q y H6 (fresh_back (e05.trans e5) hy) ((e05.trans e5).trans e6) (hn.back (e05.trans e5))
      · refine ⟨⟨⟨_, rfl⟩, fun p hp => ?_⟩, e4.trans e5⟩
        by_cases h : p < j
        · exact oldp p h
        · rw [show p = j by omega]
          exact hb
    · rintro σ2 H4 ⟨⟨y3, rfl⟩, oldp⟩ e4
      rw [List.length_range] at oldp
      refine ⟨⟨⟨_, _, _, rfl⟩, fun r hr p hp => ?_⟩, e2.trans e4⟩
      by_cases h : r < i
      · exact old r h p hp
      · have : r = i := by omega
        subst this
        exact oldp p hp
  · rintro σ1 H2 ⟨⟨y1, y2, y3, rfl⟩, old⟩ e2
    rw [List.length_range] at old
    have fn := firstNone (g := g) old
    obtain ⟨⟨r, p, u⟩, l, hfl⟩ := fullEx tri fn
    have ft : toldOf n g = .full (r : Nat) (p : Nat) (u : Nat) := by
      unfold toldOf
      rw [fn, hfl]
    rw [ft] at q
    have e12 := e1.trans e2
    refine qTup3 (edIxL (edN (enCall (aCons (edV rfl (dpUp e12 hv)) aNil) ⟨n, g, tri, rfl, rfl⟩)) (cI 0) (d := smD (r, p, u)) (atNat (j := 0) (by rw [hfl]; rfl))) fun a b c H3 e3 ha hb hc => ?_
    exact sRetA (eaFull (c := kls T) (aCons (edV rfl ha) (aCons (edV rfl hb) (aCons (edV rfl hc) aNil)))) fun y H6 hy e6 hn => q y H6 (fresh_back (e12.trans e3) hy) ((e12.trans e3).trans e6) (hn.back (e12.trans e3))

end
end Dt

namespace Dt
open PySem L2 Evl PyProof.Rows
section
variable {P : Program} {w : World} {K : PySem.W.Frag} {mg : Str → Option Value} {base : Heap}
/-! the walks -/
theorem ok_left_of (T : Tx K mg) : FnOk P w K mg base CX0 1 T.a_left_of T.d_left_of ["step"] (PrD K Q_left_of) := by

  refine T.F_left_of.ok sc_left_of (prdLen (n := 1) fun ds d h => by obtain ⟨_, _, _, _, _, rfl, _⟩ := h; rfl) (fun cdv A outer s H vs Q E hr h => ?_)
  obtain ⟨ds, d, hd, ⟨n, sm, k, hs, hk, rfl, rfl⟩, q⟩ := h
  obtain ⟨v, rfl, hv⟩ := dps1 hd
  refine ⟨_, (pss_cons (ps_asg (pv 0) (pg_tup rfl (pgs_cons (pg_tup rfl (pgs_cons (pg_name (i := 1) sc_left_of.nd rfl (.inl rfl)) (pgs_cons (pg_name (i := 2) sc_left_of.nd rfl (.inl rfl)) pgs_nil))) (pgs_cons (pg_tup rfl (pgs_cons (pg_name (i := 3) sc_left_of.nd rfl (.inl rfl)) (pgs_cons (pg_name (i := 4) sc_left_of.nd rfl (.inl rfl)) pgs_nil))) pgs_nil))))
    (pss_cons (ps_set (i := 5) sc_left_of.nd rfl (.inl rfl) (pe_op op_sub (pe_op op_add (pv 3) (pv 4)) (pv 2)))
    (pss_cons (ps_set (i := 6) sc_left_of.nd rfl (.inl rfl) (pe_op op_sub (pe_op op_add (pv 2) (pv 1)) (pv 3)))
    (pss_cons (ps_set (i := 7) sc_left_of.nd rfl (.inl rfl) (pe_lst (pa_cons (pv 1) (pa_cons (pv 3) (pa_cons (pv 5) pa_nil)))))
    (pss_cons (ps_set (i := 8) sc_left_of.nd rfl (.inl rfl) (pe_callB (r := rMin K) (cr_min rfl) (by rfl) T.z_min boot_min (pa_cons (pv 7) pa_nil)))
    (pss_one (ps_ret (pe_tup (pa_cons (pv 8) (pa_cons (pe_callB (r := rNuC3 nuMin3) (call_min3Nu rfl) (by rfl) T.z_min boot_min (pa_cons (pv 2) (pa_cons (pv 4) (pa_cons (pv 6) pa_nil)))) (pa_cons (pe_op op_sub (pe_bm PySem.F.plainAttrs_list PySem.F.slot_list_count PySem.F.type_list_count mt_countS (pv 7) (pa_cons (pv 8) pa_nil)) pe_int) pa_nil))))))))))), ?_⟩
  have n1 : ∀ {H : Hp} {σ : L2.St} {i : Nat} {x : Int}, σ[i]? = some (some (.int x)) → EvD K (tVar i) σ H (.int x) := fun h => edV h (.int _)
  refine qAsgG (edV rfl hv) fun v1 H1 e1 hv1 => tgSt hv1 _ ?_
  generalize hr1 : ((stE sm k).1.1 : Int) = r1
  generalize hp1 : ((stE sm k).1.2 : Int) = p1
  generalize hr2 : ((stE sm k).2.1 : Int) = r2
  generalize hp2 : ((stE sm k).2.2 : Int) = p2
  refine qAsg (edI2 (edI2 (n1 rfl) (n1 rfl) rfl) (n1 rfl) rfl) fun v5 H5 e5 hv5 => ?_
  have hv5 := dpInt hv5
  subst hv5
  refine qAsg (edI2 (edI2 (n1 rfl) (n1 rfl) rfl) (n1 rfl) rfl) fun v6 H6 e6 hv6 => ?_
  have hv6 := dpInt hv6
  subst hv6
  refine qAsg (d := .list ([r1, r2, r2 + p2 - p1].map .int)) (edN (enLst (aCons (n1 rfl) (aCons (n1 rfl) (aCons (n1 rfl) aNil))) (Nat.le_of_ble_eq_true rfl))) fun v7 H7 e7 hv7 => ?_
  obtain ⟨low, hlow, hmin⟩ : ∃ m : Int, m ∈ [r1, r2, r2 + p2 - p1] ∧ ∀ y ∈ [r1, r2, r2 + p2 - p1], m ≤ y := ⟨min r1 (min r2 (r2 + p2 - p1)), by
    simp
    omega, by
    simp
    omega⟩
  refine qAsg (edMinL (edV rfl hv7) (Nat.zero_lt_succ _) hlow hmin) fun v8 H8 e8 hv8 => ?_
  have hv8 := dpInt hv8
  subst hv8
  refine sRet (edIs (edTup (aCons (n1 rfl) (aCons (edMin3 (n1 rfl) (n1 rfl) (n1 rfl) (min3 _ _ _)) (aCons (edI2 (evCount (edV rfl (dpUp e8 hv7)) (n1 rfl) rfl (ys := [r1, r2, r2 + p2 - p1].map V.int) rfl rfl rfl) (cI 1) rfl) aNil))) (Nat.le_of_ble_eq_true rfl)) ?_) fun v' H9 e9 hv' => q v' H9 ((((e1.trans e5).trans e6).trans e7).trans (e8.trans e9)) hv'
  obtain ⟨z1, z2, z3⟩ := left3 hs hk hr1 hp1 hr2 hp2 hlow hmin
  rw [count3, z2, z3, z1]
  rfl
theorem ok_way_on (T : Tx K mg) : FnOk P w K mg base CX0 3 T.a_way_on T.d_way_on ["triangle", "small", "came"] (PrD K Q_way_on) := by
  have G_corners : FnOk P w K mg base CX0 1 T.a_corners T.d_corners ["small"] (PrN K Q_corners) := ok_corners T
  have G_is_door : FnOk P w K mg base CX0 2 T.a_is_door T.d_is_door ["triangle", "step"] (PrD K Q_is_door) := ok_is_door T
  refine T.F_way_on.ok sc_way_on (prdLen (n := 3) fun ds d h => by obtain ⟨_, _, _, _, _, _, _, rfl, _⟩ := h; rfl) (fun cdv A outer s H vs Q E hr h => ?_)
  obtain ⟨ds, d, hd, ⟨n, g, sm, c, tri, hs, hc, rfl, rfl⟩, q⟩ := h
  obtain ⟨v, a, b, rfl, hv, ha, hb⟩ := dps3 hd
  refine ⟨_, (pss_cons (ps_asg (pe_call G_corners (hr.mono (by decide)) (by rfl) T.g_corners T.F_corners.kp T.b_corners .nil pass0 (pa_cons (pv 1) pa_nil)) (pg_lst rfl (pgs_cons (pg_name (i := 3) sc_way_on.nd rfl (.inl rfl)) (pgs_cons (pg_name (i := 4) sc_way_on.nd rfl (.inl rfl)) (pgs_cons (pg_name (i := 5) sc_way_on.nd rfl (.inl rfl)) pgs_nil)))))
    (pss_cons (ps_for PassesOwn.never rfl (pi_tup (pe_tup (pa_cons (pe_tup (pa_cons (pv 3) (pa_cons (pv 4) pa_nil))) (pa_cons (pe_tup (pa_cons (pv 4) (pa_cons (pv 5) pa_nil))) (pa_cons (pe_tup (pa_cons (pv 5) (pa_cons (pv 3) pa_nil))) pa_nil))))) (pg_name (i := 6) sc_way_on.nd rfl (.inl rfl))
      (pss_one (ps_if (PW.pt (pw_and (pt_cmpR (r := rNeD K) (op_neD hr.units) (pv 6) (pv 2) (nomark _)) (pw_and1 (pt_val (pe_call G_is_door (hr.mono (by decide)) (by rfl) T.g_is_door T.F_is_door.kp T.b_is_door .nil pass0 (pa_cons (pv 0) (pa_cons (pv 6) pa_nil))))))) (pss_one (ps_ret (pv 6))) pss_nil)))
    (pss_one (ps_ret pe_non)))), ?_⟩
  have sE := smU hs
  refine qAsgG (edN (enCall (aCons (edV rfl ha) aNil) ⟨sm.1, sm.2.1, sm.2.2, by omega, rfl, rfl⟩)) fun v1 H1 e1 hv1 => ?_
  have ec : crnZ (sm.1 : Nat) (sm.2.1 : Nat) (sm.2.2 : Nat) = crnZ (sm.1 : Nat) (sm.2.1 : Nat) (sm.2.2 : Nat) := rfl
  have hv2 : Dp K H1 v1 (.list [spD (cor sm 0), spD (cor sm 1), spD (cor sm 2)]) := by
    have z : (crnZ (sm.1 : Nat) (sm.2.1 : Nat) (sm.2.2 : Nat)).map spZ = [spD (cor sm 0), spD (cor sm 1), spD (cor sm 2)] := by
      rw [crnNat]
      unfold crn cor
      rcases sE with h | h <;> rw [h] <;> rfl
    rw [z] at hv1
    exact hv1
  obtain ⟨x, y, z, hx, hy, hz, hg⟩ := tgLst3 (i := 3) (j := 4) (k := 5) (σ1 := start ["triangle", "small", "came", "first", "second", "third", "step"] [v, a, b]) hv2
  refine hg _ ?_
  have tv := dpUp e1 hv
  have tb := dpUp e1 hb
  refine qFor [0, 1, 2] (fun k => stD (stE sm k)) (idT (edTup (aCons (edTup (aCons (edV rfl hx) (aCons (edV rfl hy) aNil)) (Nat.le_of_ble_eq_true rfl)) (aCons (edTup (aCons (edV rfl hy) (aCons (edV rfl hz) aNil)) (Nat.le_of_ble_eq_true rfl)) (aCons (edTup (aCons (edV rfl hz) (aCons (edV rfl hx) aNil)) (Nat.le_of_ble_eq_true rfl)) aNil))) (Nat.le_of_ble_eq_true rfl)))
    (fun i σ' => (∃ y6, σ' = [some v, some a, some b, some x, some y, some z, y6]) ∧ ∀ j, j < i → (!decide (some j = c) && drB g (stE sm j)) = false) ⟨⟨_, rfl⟩, fun j h => absurd h (Nat.not_lt_zero _)⟩ ?_ ?_
  · rintro H2 e2 i k hik σ1 H3 w ⟨⟨y6, rfl⟩, hno⟩ e3 hw
    have hk : k = i ∧ i < 3 := by
      match i, hik with
      | 0, h => cases h; exact ⟨rfl, by decide⟩
      | 1, h => cases h; exact ⟨rfl, by decide⟩
      | 2, h => cases h; exact ⟨rfl, by decide⟩
    obtain ⟨rfl, hk3⟩ := hk
    have inT : (stE sm k).1.1 + (stE sm k).1.2 < n ∧ (stE sm k).2.1 + (stE sm k).2.2 < n := by
      obtain ⟨r, p, u⟩ := sm
      rcases hs with ⟨hu, hh⟩ | ⟨hu, hh⟩ <;> simp only at hu hh <;> subst hu <;> rcases k3 hk3 with rfl | rfl | rfl <;> simp [stE, cor, nx3] <;> omega
    have e23 := e2.trans e3
    refine tgName _ ?_
    refine s_when (b := !decide (some k = c) && drB g (stE sm k)) (et_and (et_test (ev_is (evNe (edV rfl hw) (edV rfl (dpUp e23 tb)) (stD_shaped _) (optD_shaped _ _)) (by rw [eqvOpt hs hk3 hc]))) fun _ => etV (edCall (aCons (edV rfl (dpUp e23 tv)) (aCons (edV rfl hw) aNil)) ⟨n, g, _, tri, inT.1, inT.2, rfl, rfl⟩)) (fun hb1 H4 e4 => ?_) (fun hb1 H4 e4 => ?_)
    · refine sRet (edV rfl (dpUp e4 hw)) fun v' H5 e5 hv' => q v' H5 (((e1.trans e23).trans e4).trans e5) ?_
      have ew : wayOf g sm c = some k := by
        have h3 : k = 0 ∨ k = 1 ∨ k = 2 := k3 hk3
        unfold wayOf
        rcases h3 with rfl | rfl | rfl
        · rw [List.find?_cons, hb1]
        · rw [List.find?_cons, hno 0 (by omega), List.find?_cons, hb1]
        · rw [List.find?_cons, hno 0 (by omega), List.find?_cons, hno 1 (by omega), List.find?_cons, hb1]
      rw [ew]
      exact hv'
    · refine ⟨⟨⟨_, rfl⟩, fun j hj => ?_⟩, e3.trans e4⟩
      by_cases hjk : j = k
      · rw [hjk]; exact hb1
      · exact hno j (by omega)
  · rintro σ1 H2 ⟨⟨y6, rfl⟩, hno⟩ e2
    have hno : ∀ j, j < 3 → (!decide (some j = c) && drB g (stE sm j)) = false := hno
    have ew : wayOf g sm c = none := by
      unfold wayOf
      rw [List.find?_cons, hno 0 (by omega), List.find?_cons, hno 1 (by omega), List.find?_cons, hno 2 (by omega)]
      rfl
    rw [ew] at q
    exact sRet (d := .none) (edE ev_c fun H1 => .non) fun v' H5 e5 hv' => q v' H5 ((e1.trans e2).trans e5) hv'
theorem ok_walk_on (T : Tx K mg) : FnOk P w K mg base CX0 4 T.a_walk_on T.d_walk_on ["triangle", "small", "came"] (PrA (kls T) K Q_walk_on) := by
  have G_side_steps : FnOk P w K mg base CX0 2 T.a_side_steps T.d_side_steps ["triangle"] (PrN K Q_side_steps) := ok_side_steps T
  have G_Ended___init__ : FnOk P w K mg base CX0 1 T.a_Ended___init__ T.d_Ended___init__ ["self", "smalls"] (SpIniE K T.C_Ended) := ok_Ended___init__ T
  have G_Out___init__ : FnOk P w K mg base CX0 1 T.a_Out___init__ T.d_Out___init__ ["self", "smalls", "door"] (SpIniO K T.C_Out) := ok_Out___init__ T
  have G_left_of : FnOk P w K mg base CX0 1 T.a_left_of T.d_left_of ["step"] (PrD K Q_left_of) := ok_left_of T
  have G_way_on : FnOk P w K mg base CX0 3 T.a_way_on T.d_way_on ["triangle", "small", "came"] (PrD K Q_way_on) := ok_way_on T
  refine T.F_walk_on.ok sc_walk_on (praLen (n := 3) fun ds d h => by obtain ⟨_, _, _, _, _, _, _, _, _, _, _, _, _, rfl, _⟩ := h; rfl) (fun cdv A outer s H vs Q E hr h => ?_)
  obtain ⟨ds, a, hd, ⟨n, g, sm, c, t, l, e, tri, ht, hs, hc, hw, hll, rfl, rfl⟩, q⟩ := h
  obtain ⟨v, va, vb, rfl, hv, ha, hb⟩ := dps3 hd
  refine ⟨_, (pss_cons (ps_setDcK (i := 3) (own := [("at", 8), ("step", 9)]) (g := gTup K 2 (gCons (gName 8) (gCons (gName 9) gNil))) rfl sc_walk_on.nd rfl rfl (room8 hr) (swDict rfl rfl rfl (by decide +kernel)) (pi_enum (by rfl) T.z_enumerate (pa_cons (pe_call G_side_steps (hr.mono (by decide)) (by rfl) T.g_side_steps T.F_side_steps.kp T.b_side_steps .nil pass0 (pa_cons (pv 0) pa_nil)) pa_nil)) (blkOk_by (N := ["triangle", "small", "came", "counts", "smalls", "way", "here", "there", "at", "step"]) (sc := defScope s_walk_on) (by decide +kernel)) (fun _ _ _ _ _ => (pg_tup rfl (pgs_cons (pg_name (i := 8) sc_walk_on.nd rfl (.inl rfl)) (pgs_cons (pg_name (i := 9) sc_walk_on.nd rfl (.inl rfl)) pgs_nil)))) (fun _ _ _ _ _ => (pv 9)) (fun _ _ _ _ _ => (pv 8)))
    (pss_cons (ps_set (i := 4) sc_walk_on.nd rfl (.inl rfl) (pe_lst (pa_cons (pv 1) pa_nil)))
    (pss_cons (ps_set (i := 5) sc_walk_on.nd rfl (.inl rfl) (pe_call G_way_on (hr.mono (by decide)) (by rfl) T.g_way_on T.F_way_on.kp T.b_way_on .nil pass0 (pa_cons (pv 0) (pa_cons (pv 1) (pa_cons (pv 2) pa_nil)))))
    (pss_cons (ps_while PassesOwn.never (PW.pt (pw_and (pt_cmpR (r := rNotNon) op_notNR (pv 5) pe_non (nomark _)) (pw_and1 (pt_cmpR (r := rInK P w K true) (op_notInK (room10 hr)) (pv 5) (pv 3) (by with_unfolding_all rfl))))) (pss_cons (ps_asg (pv 5) (pg_tup rfl (pgs_cons (pg_name (i := 6) sc_walk_on.nd rfl (.inl rfl)) (pgs_cons (pg_name (i := 7) sc_walk_on.nd rfl (.inl rfl)) pgs_nil))))
    (pss_cons (ps_set (i := 2) sc_walk_on.nd rfl (.inl rfl) (pe_tup (pa_cons (pv 7) (pa_cons (pv 6) pa_nil))))
    (pss_cons (ps_set (i := 1) sc_walk_on.nd rfl (.inl rfl) (pe_call G_left_of (hr.mono (by decide)) (by rfl) T.g_left_of T.F_left_of.kp T.b_left_of .nil pass0 (pa_cons (pv 2) pa_nil)))
    (pss_cons (ps_expr (pe_bm PySem.F.plainAttrs_list PySem.F.slot_list_append PySem.F.type_list_append mt_append (pv 4) (pa_cons (pv 1) pa_nil)))
    (pss_one (ps_set (i := 5) sc_walk_on.nd rfl (.inl rfl) (pe_call G_way_on (hr.mono (by decide)) (by rfl) T.g_way_on T.F_way_on.kp T.b_way_on .nil pass0 (pa_cons (pv 0) (pa_cons (pv 1) (pa_cons (pv 2) pa_nil)))))))))))
    (pss_cons (ps_if (pt_cmpR (r := rIsNon) op_isNR (pv 5) pe_non (nomark _)) (pss_one (ps_ret (pe_make T.mk_Ended G_Ended___init__ (hr.mono (by decide)) (by rfl) T.g_Ended T.b_Ended___init__ .nil pass0 (pa_cons (pv 4) pa_nil)))) pss_nil)
    (pss_one (ps_ret (pe_make T.mk_Out G_Out___init__ (hr.mono (by decide)) (by rfl) T.g_Out T.b_Out___init__ .nil pass0 (pa_cons (pv 4) (pa_cons (pe_ix (r := rIxK P w K) (ix_K (room10 hr)) (pv 3) (pv 5) (fun _ _ => rfl)) pa_nil)))))))))), ?_⟩
  have lo := tri.lo
  have hi := tri.hi
  have sl := stepsLen n
  refine qDcK (List.range (steps n).length) (fun i => .tuple [.int (i : Nat), stD ((steps n).getD i ((0, 0), 0, 0))]) (fun i => keySt ((steps n).getD i ((0, 0), 0, 0))) (fun i => V.int (i : Nat)) (idIs (idEnum (aCons (edN (enCall (aCons (edV rfl hv) aNil) ⟨n, g, tri, rfl, rfl⟩)) aNil)) ?_) (by rw [List.length_range]; omega) ?_ (fun _ _ => keySt8 _) (fun _ _ => ⟨_, rfl⟩) (fun i hi H2 x e2 hx => ?_) fun p H1 hp e1 hk => ?_
  · rw [mapIdxGet (stD ((0, 0), 0, 0)), List.length_map]
    refine List.map_congr_left fun i hi => ?_
    rw [List.mem_range] at hi
    rw [List.getD_eq_getElem?_getD, List.getD_eq_getElem?_getD, List.getElem?_map, List.getElem?_eq_getElem hi]
    rfl
  · have z := kvsNodup lo
    unfold kvsOf at z
    rw [List.map_map] at z
    exact z
  · obtain ⟨a1, b1, ha1, hb1, hg⟩ := tgTup2 (σ1 := wipe _ _) hx
    have ha1 := dpInt ha1
    subst ha1
    exact ⟨_, hg, rfl, edV rfl hb1, ev_var rfl⟩
  have hk : Dk P w K H1 p (kvsOf n) := hk
  refine qAsgN (enLst (aCons (edV rfl (dpUp e1 ha)) aNil) (Nat.le_of_ble_eq_true rfl)) fun p4 xs4 H2 hp4 e2 h4 d4 => ?_
  have gr0 : Grow K H1 p4 ([sm].map smD) H2 := growNew hp4 e2 h4 d4 (smDs_noL _)
  have e12 := e1.trans e2
  have hc3 : ∀ k, c = some k → k < 3 := fun k hk => by
    rcases hc with ⟨rfl, _⟩ | ⟨j, hj, rfl, _⟩
    · cases hk
    · cases hk; exact hj
  refine qAsg (edIs (edCall (aCons (edV rfl (dpUp e12 hv)) (aCons (edV rfl (dpUp e12 ha)) (aCons (edV rfl (dpUp e12 hb)) aNil))) ⟨n, g, sm, c, tri, hs, hc3, rfl, rfl⟩) (by rw [wayIs ht hc])) fun v5 H3 e3 hv5 => ?_
  have hl0 : ∃ post, l = [] ++ sm :: post := by
    have hh := hw.head
    match l, hh with
    | x :: r, hh => cases hh; exact ⟨r, rfl⟩
  obtain ⟨post0, hl0⟩ := hl0
  refine q_while (fun m σ' H' => ∃ pre x post v1 v2 v5 y6 y7 y8 y9, l = pre ++ x :: post ∧ m = post.length ∧ σ' = [some v, some v1, some v2, some (.ref p), some (.ref p4), some v5, y6, y7, y8, y9] ∧ Grow K H1 p4 ((pre ++ [x]).map smD) H' ∧ Dp K H' v5 (optD x (ed g (-t) x))) post0.length ⟨[], sm, post0, _, _, _, _, _, _, _, hl0, rfl, rfl, gr0.up e3, hv5⟩ ?_
  rintro m σ' H4 ⟨pre, x, post, v1, v2, v5, y6, y7, y8, y9, hlx, rfl, rfl, gr, hv5⟩
  have e4 : Ex H1 H4 := gr.2.1
  have hx : isSm n x := hw.all x (by rw [hlx]; exact List.mem_append_right _ List.mem_cons_self)
  have hkD := hk.up e4
  have step := pathStep (hlx ▸ hw.path)
  have plen : (pre ++ [x]).length ≤ 20000 := by
    rw [hlx, List.length_append, List.length_cons] at hll
    rw [List.length_append, List.length_singleton]
    omega
  have stpx : stp n g t x = (ed g (-t) x).bind (nb n x) := if_pos hx
  have last : post = [] → e = outAt n g t x := fun hp => by
    subst hp
    obtain ⟨y, h1, h2⟩ := hw.last
    rw [hlx, List.getLast?_append] at h1
    cases h1
    exact h2
  cases hed : ed g (-t) x with
  | none =>
    rw [hed] at hv5 stpx
    have hpost : post = [] ∧ stp n g t x = none := by
      rcases step with h | ⟨u, r, _, h⟩
      · exact h
      · rw [stpx] at h; cases h
    have he := last hpost.1
    unfold outAt at he
    rw [hed] at he
    have he : e = none := he
    subst he
    rw [hpost.1] at hlx
    refine ⟨false, et_is (et_and (b := false) (et_test (evB (edNotNon (edV rfl hv5)))) fun h => absurd h (by simp [optD, isNn])) rfl, fun h => absurd h Bool.false_ne_true, fun _ H5 e5 => ?_⟩
    refine q_when (b := true) (et_test (evB (edIsNon (edV rfl (dpUp e5 hv5))))) (fun _ H6 e6 => ?_) fun h => nomatch h
    have e16 : Ex H H6 := ((e1.trans e4).trans e5).trans e6
    refine sRetA (eaEnded (c := kls T) (smDs_noL l) (aCons (edV rfl (by rw [hlx]; exact (gr.up (e5.trans e6)).dp)) aNil)) fun y H7 hy e7 hn => q y H7 (fresh_back e16 hy) (e16.trans e7) (hn.back e16)
  | some k =>
    obtain ⟨hk3, hek⟩ := edSome hed
    rw [hed] at hv5 stpx
    have stpx : stp n g t x = nb n x k := stpx
    cases hnb : nb n x k with
    | none =>
      have hpost : post = [] := by
        rcases step with h | ⟨u, r, _, h⟩
        · exact h.1
        · rw [stpx, hnb] at h; cases h
      have he := last hpost
      unfold outAt at he
      rw [hed] at he
      have he : e = some (sideI n x k) := he
      subst he
      rw [hpost] at hlx
      obtain ⟨hi1, hi2⟩ := stepsIx hx hk3 hnb
      have hval := kvsIn lo hi2
      refine ⟨false, et_is (et_and (b := false) (et_test (evB (edNotNon (edV rfl hv5)))) fun h => et_test (ev_is (etNotInK (tb := tVar 0) (ks := [keySp (stE x k).1, keySp (stE x k).2]) (edV rfl hv5) (keySt8 _) rfl hkD) (by
        have z : valV (kvsOf n) (NestedKey.tup [keySp (stE x k).1, keySp (stE x k).2]) = some (.int (sideI n x k : Nat)) := hval
        rw [z]
        rfl))) (Bool.and_false _), fun h => absurd h Bool.false_ne_true, fun _ H5 e5 => ?_⟩
      refine q_when (b := false) (et_test (evB (edIsNon (edV rfl (dpUp e5 hv5))))) (fun h => nomatch h) (fun _ H6 e6 => ?_)
      have e56 := e5.trans e6
      have e16 : Ex H H6 := (e1.trans e4).trans e56
      refine sRetA (eaOut (c := kls T) (smDs_noL l) (aCons (edV rfl (by rw [hlx]; exact (gr.up e56).dp)) (aCons (edI (evIxK (ks := [keySp (stE x k).1, keySp (stE x k).2]) (edV rfl (dpUp e56 hv5)) (keySt8 _) rfl (hkD.up e56) hval)) aNil))) fun y H7 hy e7 hn => q y H7 (fresh_back e16 hy) (e16.trans e7) (hn.back e16)
    | some u =>
      obtain ⟨post', rfl⟩ : ∃ r, post = u :: r := by
        rcases step with h | ⟨u', r, h1, h⟩
        · rw [stpx, hnb] at h; cases h.2
        · rw [stpx, hnb] at h; cases h; exact ⟨r, h1⟩
      obtain ⟨hu, ho3, _, hc1, hc2⟩ := nbBack g hk3 hx hnb
      have heu : ek g u (opk x k) = t := by rw [ekBack g hk3 hx hnb, hek, Int.neg_neg]
      have hval := kvsOut (stepsOut lo hx hk3 hnb)
      refine ⟨true, et_is (et_and (b := true) (et_test (evB (edNotNon (edV rfl hv5)))) fun h => et_test (ev_is (etNotInK (tb := tVar 0) (ks := [keySp (stE x k).1, keySp (stE x k).2]) (edV rfl hv5) (keySt8 _) rfl hkD) (by
        have z : valV (kvsOf n) (NestedKey.tup [keySp (stE x k).1, keySp (stE x k).2]) = none := hval
        rw [z]
        rfl))) (by simp [optD, isNn, stD]), fun _ H5 e5 => ?_, fun h => absurd h (by decide)⟩
      refine ⟨fun σ2 H2 => ∃ v1 v2 v5 y6 y7 y8 y9, σ2 = [some v, some v1, some v2, some (.ref p), some (.ref p4), some v5, y6, y7, y8, y9] ∧ Grow K H1 p4 ((pre ++ [x] ++ [u]).map smD) H2 ∧ Dp K H2 v5 (optD u (ed g (-t) u)), fun σ2 H2 z => ?_, ?_⟩
      · obtain ⟨v1, v2, v5, y6, y7, y8, y9, h1, h2, h3⟩ := z
        exact ⟨post'.length, Nat.lt_succ_self _, pre ++ [x], u, post', v1, v2, v5, y6, y7, y8, y9, by rw [hlx, List.append_assoc]; rfl, rfl, h1, h2, h3⟩
      refine qAsgG (edV rfl (dpUp e5 hv5)) fun vw H6 e6 hvw => ?_
      obtain ⟨vh, vt, hvh, hvt, hg⟩ := tgTup2 (i := 6) (j := 7) (σ1 := [some v, some v1, some v2, some (.ref p), some (.ref p4), some v5, y6, y7, y8, y9]) hvw
      refine hg _ ?_
      have ecame : PyData.tuple [spD (stE x k).2, spD (stE x k).1] = stD (stE u (opk x k)) := by
        unfold stD stE
        rw [hc1, hc2]
      refine qAsg (edIs (edTup (aCons (edV rfl hvt) (aCons (edV rfl hvh) aNil)) (Nat.le_of_ble_eq_true rfl)) ecame) fun vc H7 e7 hvc => ?_
      refine qAsg (edCall (aCons (edV rfl hvc) aNil) ⟨n, u, opk x k, hu, ho3, rfl, rfl⟩) fun vs H8 e8 hvs => ?_
      have e58 := ((e5.trans e6).trans e7).trans e8
      refine qAppG (gr.up e58) rfl (edV rfl hvs) (by have := smDs_noL [u]; rw [List.map_cons, noLs] at this; exact (Bool.and_eq_true _ _ ▸ this).1) (by rw [List.length_map]; omega) fun H9 gr9 kp => ?_
      have hvs9 := kp vs _ (by have := smDs_noL [u]; rw [List.map_cons, noLs] at this; exact (Bool.and_eq_true _ _ ▸ this).1) hvs
      have hvc9 := kp vc _ (stD_noL _) (dpUp e8 hvc)
      refine sAsg (edIs (edCall (aCons (edV rfl (dpUp (e1.trans gr9.2.1) hv)) (aCons (edV rfl hvs9) (aCons (edV rfl hvc9) aNil))) ⟨n, g, u, some (opk x k), tri, hu, fun j hj => by cases hj; exact ho3, rfl, rfl⟩) (by rw [wayIs ht (.inr ⟨_, ho3, rfl, heu⟩)])) fun v10 H10 e10 hv10 => ⟨_, _, _, _, _, _, _, rfl, ?_, hv10⟩
      have z := gr9.up e10
      rw [List.map_append (l₁ := pre ++ [x])]
      exact z
theorem ok_walk (T : Tx K mg) : FnOk P w K mg base CX0 5 T.a_walk T.d_walk ["triangle", "door"] (PrA (kls T) K Q_walk) := by
  have G_is_number : FnOk P w K mg base CX0 1 T.a_is_number T.d_is_number ["value"] (PrD K P_is_number) := ok_is_number T
  have G_check_triangle : FnOk P w K mg base CX0 3 T.a_check_triangle T.d_check_triangle ["triangle"] (PrD K P_check_triangle) := ok_check_triangle T
  have G_side_steps : FnOk P w K mg base CX0 2 T.a_side_steps T.d_side_steps ["triangle"] (PrN K Q_side_steps) := ok_side_steps T
  have G_doors : FnOk P w K mg base CX0 4 T.a_doors T.d_doors ["triangle"] (PrN K P_doors) := ok_doors T
  have G_left_of : FnOk P w K mg base CX0 1 T.a_left_of T.d_left_of ["step"] (PrD K Q_left_of) := ok_left_of T
  have G_walk_on : FnOk P w K mg base CX0 4 T.a_walk_on T.d_walk_on ["triangle", "small", "came"] (PrA (kls T) K Q_walk_on) := ok_walk_on T
  refine T.F_walk.ok sc_walk (praLen (n := 2) fun ds d h => by obtain ⟨_, _, _, _, _, _, _, _, _, _, _, rfl, _⟩ := h; rfl) (fun cdv A outer s H vs Q E hr h => ?_)
  obtain ⟨ds, a, hd, ⟨n, g, i, t, l, e, tri, ht, hi, hek, hw, rfl, rfl⟩, q⟩ := h
  obtain ⟨v, vi, rfl, hv, hvi⟩ := dps2 hd
  have hvi := dpInt hvi
  subst hvi
  refine ⟨_, (pss_cons (ps_expr (pe_call G_check_triangle (hr.mono (by decide)) (by rfl) T.g_check_triangle T.F_check_triangle.kp T.b_check_triangle .nil pass0 (pa_cons (pv 0) pa_nil)))
    (pss_cons (ps_if (PW.pt (pw_or (pt_not (pt_val (pe_call G_is_number (hr.mono (by decide)) (by rfl) T.g_is_number T.F_is_number.kp T.b_is_number .nil pass0 (pa_cons (pv 1) pa_nil)))) (pw_or1 (pt_cmpR (r := rIn K true) op_notIn_seq (pv 1) (pe_call G_doors (hr.mono (by decide)) (by rfl) T.g_doors T.F_doors.kp T.b_doors .nil pass0 (pa_cons (pv 0) pa_nil)) (by with_unfolding_all rfl))))) (pss_one ps_never) pss_nil)
    (pss_cons (ps_set (i := 2) sc_walk.nd rfl (.inl rfl) (pe_ix (r := rIxL K) ix_list (pe_call G_side_steps (hr.mono (by decide)) (by rfl) T.g_side_steps T.F_side_steps.kp T.b_side_steps .nil pass0 (pa_cons (pv 0) pa_nil)) (pv 1) (fun _ _ => rfl)))
    (pss_one (ps_ret (pe_call G_walk_on (hr.mono (by decide)) (by rfl) T.g_walk_on T.F_walk_on.kp T.b_walk_on .nil pass0 (pa_cons (pv 0) (pa_cons (pe_call G_left_of (hr.mono (by decide)) (by rfl) T.g_left_of T.F_left_of.kp T.b_left_of .nil pass0 (pa_cons (pv 2) pa_nil)) (pa_cons (pv 2) pa_nil))))))))), ?_⟩
  have lo := tri.lo
  have hi1 := tri.hi
  have n1 : ∀ {H : Hp} {σ : L2.St} {i : Nat} {x : Int}, σ[i]? = some (some (.int x)) → EvD K (tVar i) σ H (.int x) := fun h => edV h (.int _)
  obtain ⟨s1, s2, s3, s4⟩ := sideOk lo hi
  have hin : i ∈ doorsOf (pairs (codes n g)) := doorsIff.mpr ⟨hi, by rcases ht with rfl | rfl <;> rw [hek] <;> decide⟩
  refine qDrop (edCall (aCons (edV rfl hv) aNil) ⟨n, g, tri, rfl, rfl⟩) fun H1 e1 => ?_
  have hv1 := dpUp e1 hv
  refine qSkip (orFF (notT (etV (edCall (aCons (n1 rfl) aNil) ⟨_, rfl, rfl⟩))) (etC (edInL (w := .int (i : Nat)) (n1 rfl) (edN (enCall (aCons (edV rfl hv1) aNil) ⟨n, g, tri, rfl, rfl⟩)) rfl (ws := (doorsOf (pairs (codes n g))).map fun j => V.int (j : Nat)) (by rw [List.map_map, List.map_map]; rfl) rfl (by rw [List.all_map]; exact List.all_eq_true.mpr fun _ _ => rfl) (by rw [if_pos rfl, inInts hin]; rfl)))) fun H2 e2 => ?_
  have e12 := e1.trans e2
  refine qAsg (edIxL (edN (enCall (aCons (edV rfl (dpUp e12 hv)) aNil) ⟨n, g, tri, rfl, rfl⟩)) (n1 rfl) (d := stD (stE (sideE n i).1 (sideE n i).2)) (atNat (by rw [List.getElem?_map, stepsAt hi]; rfl))) fun vs H3 e3 hvs => ?_
  have e13 := e12.trans e3
  have h0 := stpDoor ht s2 hek s3
  exact sRetA (eaCall (aCons (edV rfl (dpUp e13 hv)) (aCons (edCall (aCons (edV rfl hvs) aNil) ⟨n, _, _, s1, s2, rfl, rfl⟩) (aCons (edV rfl hvs) aNil))) ⟨n, g, _, some (sideE n i).2, t, l, e, tri, ht, s1, .inr ⟨_, s2, rfl, hek⟩, hw, wayLen ht s1 h0 hw hi1, rfl, rfl⟩) fun y H7 hy e7 hn => q y H7 (fresh_back e13 hy) (e13.trans e7) (hn.back e13)
theorem ok_walk_out (T : Tx K mg) : FnOk P w K mg base CX0 5 T.a_walk_out T.d_walk_out ["triangle", "small"] (PrA (kls T) K Q_walk_out) := by
  have G_check_triangle : FnOk P w K mg base CX0 3 T.a_check_triangle T.d_check_triangle ["triangle"] (PrD K P_check_triangle) := ok_check_triangle T
  have G_check_small : FnOk P w K mg base CX0 4 T.a_check_small T.d_check_small ["triangle", "small"] (PrD K P_check_small) := ok_check_small T
  have G_turn_of : FnOk P w K mg base CX0 2 T.a_turn_of T.d_turn_of ["triangle", "small"] (PrD K P_turn_of) := ok_turn_of T
  have G_walk_on : FnOk P w K mg base CX0 4 T.a_walk_on T.d_walk_on ["triangle", "small", "came"] (PrA (kls T) K Q_walk_on) := ok_walk_on T
  refine T.F_walk_out.ok sc_walk_out (praLen (n := 2) fun ds d h => by obtain ⟨_, _, _, _, _, _, _, _, _, _, _, rfl, _⟩ := h; rfl) (fun cdv A outer s H vs Q E hr h => ?_)
  obtain ⟨ds, a, hd, ⟨n, g, sm, t, l, e, tri, ht, hs, htr, hw, rfl, rfl⟩, q⟩ := h
  obtain ⟨v, va, rfl, hv, ha⟩ := dps2 hd
  refine ⟨_, (pss_cons (ps_expr (pe_call G_check_triangle (hr.mono (by decide)) (by rfl) T.g_check_triangle T.F_check_triangle.kp T.b_check_triangle .nil pass0 (pa_cons (pv 0) pa_nil)))
    (pss_cons (ps_expr (pe_call G_check_small (hr.mono (by decide)) (by rfl) T.g_check_small T.F_check_small.kp T.b_check_small .nil pass0 (pa_cons (pv 0) (pa_cons (pv 1) pa_nil))))
    (pss_cons (ps_if (pt_cmpR (r := rEqD K) (op_eqD hr.units) (pe_call G_turn_of (hr.mono (by decide)) (by rfl) T.g_turn_of T.F_turn_of.kp T.b_turn_of .nil pass0 (pa_cons (pv 0) (pa_cons (pv 1) pa_nil))) pe_int (nomark _)) (pss_one ps_never) pss_nil)
    (pss_cons (ps_asg (pv 1) (pg_tup rfl (pgs_cons (pg_name (i := 2) sc_walk_out.nd rfl (.inl rfl)) (pgs_cons (pg_name (i := 3) sc_walk_out.nd rfl (.inl rfl)) (pgs_cons (pg_name (i := 4) sc_walk_out.nd rfl (.inl rfl)) pgs_nil)))))
    (pss_one (ps_ret (pe_call G_walk_on (hr.mono (by decide)) (by rfl) T.g_walk_on T.F_walk_on.kp T.b_walk_on .nil pass0 (pa_cons (pv 0) (pa_cons (pe_tup (pa_cons (pv 2) (pa_cons (pv 3) (pa_cons (pv 4) pa_nil)))) (pa_cons pe_non pa_nil)))))))))), ?_⟩
  have lo := tri.lo
  have hi1 := tri.hi
  refine qDrop (edCall (aCons (edV rfl hv) aNil) ⟨n, g, tri, rfl, rfl⟩) fun H1 e1 => ?_
  refine qDrop (edCall (aCons (edV rfl (dpUp e1 hv)) (aCons (edV rfl (dpUp e1 ha)) aNil)) ⟨n, g, sm, tri, hs, rfl, rfl⟩) fun H2 e2 => ?_
  have e12 := e1.trans e2
  refine qSkip (etC (edIs (edEqI (edCall (aCons (edV rfl (dpUp e12 hv)) (aCons (edV rfl (dpUp e12 ha)) aNil)) ⟨n, g, sm, tri, hs, rfl, rfl⟩) (cI 0)) (by rw [htr]; rcases ht with rfl | rfl <;> rfl))) fun H3 e3 => ?_
  refine qTup3 (edV rfl (dpUp (e12.trans e3) ha)) fun a b c H4 e4 ha hb hc => ?_
  have e14 := (e12.trans e3).trans e4
  exact sRetA (eaCall (aCons (edV rfl (dpUp e14 hv)) (aCons (edTup (aCons (edV rfl ha) (aCons (edV rfl hb) (aCons (edV rfl hc) aNil))) (Nat.le_of_ble_eq_true rfl)) (aCons (edE ev_c fun H1 => .non) aNil))) ⟨n, g, sm, none, t, l, e, tri, ht, hs, .inl ⟨rfl, edFull ht hs htr⟩, hw, wayLen ht hs (stpFull ht hs htr) hw hi1, rfl, rfl⟩) fun y H7 hy e7 hn => q y H7 (fresh_back e14 hy) (e14.trans e7) (hn.back e14)

end
end Dt

namespace Dt
open PySem L2 Evl PyProof.Rows
section
variable {P : Program} {w : World} {K : PySem.W.Frag} {mg : Str → Option Value} {base : Heap}
/-! the law's own numbers; what is plain -/
theorem ok__law_number (T : Tx K mg) : FnOk P w K mg base CX0 1 T.a__law_number T.d__law_number ["_law_cell", "_law_at", "_law_whole"] (PrD K P__law_number) := by

  refine T.F__law_number.ok sc__law_number (prdLen (n := 3) fun ds d h => by obtain ⟨_, _, _, _, _, _, _, rfl, _⟩ := h; rfl) (fun cdv A outer s H vs Q E hr h => ?_)
  obtain ⟨ds, d, hd, ⟨c, a, w, hc, ha, ha2, hw, rfl, rfl⟩, q⟩ := h
  obtain ⟨v1, v2, v3, rfl, h1, h2, h3⟩ := dps3 hd
  have h1 := dpInt h1
  have h2 := dpInt h2
  have h3 := dpInt h3
  subst h1 h2 h3
  refine ⟨_, (pss_cons (ps_if (pt_cmpR op_ge (pv 0) (pe_op op_pow pe_int pe_int) (nomark _)) (pss_one (ps_ret (pe_op op_fdiv (pv 0) (pe_op op_add pe_int (pe_op op_mod (pv 1) pe_int))))) pss_nil)
    (pss_cons (ps_set (i := 3) sc__law_number.nd rfl (.inl rfl) (pe_op op_mod (pe_op op_add (pe_op op_mul (pe_op op_add (pv 0) (pe_op op_mul pe_int (pv 1))) pe_int) (pv 2)) pe_int))
    (pss_cons (ps_set (i := 4) sc__law_number.nd rfl (.inl rfl) (pe_op op_mul (pv 3) (pe_op op_add (pe_op op_add (pv 0) (pe_op op_mul pe_int (pv 1))) pe_int)))
    (pss_one (ps_ret (pe_op op_fdiv (pe_op op_mul (pe_op op_mul (pv 4) (pe_op op_add (pe_op op_add (pv 3) (pv 0)) pe_int)) (pe_op op_add (pe_op op_mul (pv 3) (pv 3)) pe_int)) (pe_op op_add pe_int (pv 1)))))))), ?_⟩
  have n1 : ∀ {H : Hp} {σ : L2.St} {i : Nat} {x : Int}, σ[i]? = some (some (.int x)) → EvD K (tVar i) σ H (.int x) := fun h => edV h (.int _)
  have a0 : 0 ≤ a % 7 := Int.emod_nonneg _ (by decide)
  have a7 : a % 7 < 7 := Int.emod_lt_of_pos _ (by decide)
  refine q_when (b := decide ((10 : Int) ^ (18 : Int).toNat ≤ c)) (etC (edGe (n1 rfl) (edI2c (cI 10) (cI 18) ⟨by decide, by decide, by decide⟩ rfl))) (fun hb H1 e1 => ?_) (fun hb H1 e1 => ?_)
  · refine sRet (edI2c (n1 rfl) (edI2 (cI 1) (edI2c (n1 rfl) (cI 7) (by decide) rfl) rfl) ⟨by omega, by omega⟩ rfl) fun v' H2 e2 hv' => q v' H2 (e1.trans e2) ?_
    rw [numOf, if_pos (of_decide_eq_true hb)]
    exact hv'
  · have hlt : c < 10 ^ 18 := by
      have := of_decide_eq_false hb
      have e : (10 : Int) ^ (18 : Int).toNat = 10 ^ 18 := rfl
      rw [e] at this
      omega
    refine qAsg (edI2c (edI2 (edI2c (edI2 (n1 rfl) (edI2c (cI 977) (n1 rfl) (.inl ⟨by decide, by decide⟩) rfl) rfl) (cI 48271) (.inr ⟨by decide, by decide⟩) rfl) (n1 rfl) rfl) (cI 2147483647) (by decide) rfl) fun v4 H2 e2 hv4 => ?_
    have hv4 := dpInt hv4
    subst hv4
    have b0 : 0 ≤ ((c + 977 * a) * 48271 + w) % 2147483647 := Int.emod_nonneg _ (by decide)
    have b1 : ((c + 977 * a) * 48271 + w) % 2147483647 < 2147483647 := Int.emod_lt_of_pos _ (by decide)
    have q2 := q
    rw [numOf, if_neg (by have := of_decide_eq_false hb; exact this)] at q2
    generalize ((c + 977 * a) * 48271 + w) % 2147483647 = bl at b0 b1 q2 ⊢
    have bb : bl * bl ≤ 2147483647 * 2147483647 := Int.mul_le_mul (by omega) (by omega) b0 (by decide)
    have bb0 : 0 ≤ bl * bl := Int.mul_nonneg b0 b0
    refine qAsg (edI2c (n1 rfl) (edI2 (edI2 (n1 rfl) (edI2c (cI 31) (n1 rfl) (.inl ⟨by decide, by decide⟩) rfl) rfl) (cI 7) rfl) (.inl ⟨by omega, by omega⟩) rfl) fun v5 H3 e3 hv5 => ?_
    have hv5 := dpInt hv5
    subst hv5
    exact sRet (edI2c (edI2c (edI2c (n1 rfl) (edI2 (edI2 (n1 rfl) (n1 rfl) rfl) (cI 5) rfl) (.inr ⟨by omega, by omega⟩) rfl) (edI2 (edI2c (n1 rfl) (n1 rfl) (.inl ⟨by omega, by omega⟩) rfl) (cI 11) rfl) (.inr ⟨by omega, by omega⟩) rfl) (edI2 (cI 1009) (n1 rfl) rfl) ⟨by omega, by omega⟩ rfl) fun v' H4 e4 hv' => q2 v' H4 (((e1.trans e2).trans e3).trans e4) hv'
theorem ok__law_truths (T : Tx K mg) : FnOk P w K mg base CX0 1 T.a__law_truths T.d__law_truths ["_law_things"] (PrD K P__law_truths) := by

  refine T.F__law_truths.ok sc__law_truths (prdLen (n := 1) fun ds d h => by obtain ⟨_, _, rfl, _⟩ := h; rfl) (fun cdv A outer s H vs Q E hr h => ?_)
  obtain ⟨ds, d, hd, ⟨bs, hl, rfl, rfl⟩, q⟩ := h
  obtain ⟨v, rfl, hv⟩ := dps1 hd
  refine ⟨_, (pss_one (ps_ret (pe_callB (r := rAll K) (cr_all rfl) (by rfl) T.z_all boot_all (pa_cons (pe_lc (own := [("_law_one", 1)]) (g := gName 1) (tt := tYes) rfl sc__law_truths.nd (pi_list (pv 0)) (blkOk_by (N := ["_law_things", "_law_one"]) (sc := defScope s__law_truths) (by decide +kernel)) (fun _ _ _ _ _ => (pg_name (i := 1) sc__law_truths.nd rfl (.inl rfl))) (fun _ _ _ _ _ => pts_nil) (fun _ _ _ _ _ => (pe_callB (r := rIsi K) call_isi (by rfl) T.z_isinstance boot_isinstance (pa_cons (pv 1) (pa_cons (pe_bltn (v := .ty "bool") (by rfl) T.z_bool boot_bool rfl) pa_nil))))) pa_nil)))), ?_⟩
  exact sRet (edAllT (L := bs) (enLcA bs (fun b => .bool b) (fun _ => .bool true) (idL (edV rfl hv)) hl (fun _ _ => by rw [noL]) fun b _ H1 w e1 hw => ⟨_, tgName, rfl, edIsi (edV rfl hw) kBB⟩)) fun v' H3 e3 hv' => q v' H3 e3 hv'
theorem plain_lv (T : Tx K mg) : ∀ m, FnOk P w K mg base CX0 m T.a__law_plain T.d__law_plain ["_law_thing"] (PlS K m)
  | 0 => ⟨fun _ _ _ _ h => h.elim, fun _ _ _ _ _ _ _ _ _ _ _ _ _ h => h.elim⟩
  | m + 1 => by
    have G__law_plain := plain_lv T m
    refine T.F__law_plain.ok sc__law_plain (prdLen (n := 1) fun ds d h => by obtain ⟨_, _, rfl, _⟩ := h; rfl) (fun cdv A outer s H vs Q E hr h => ?_)
    obtain ⟨ds, d, hd, ⟨x, hx, rfl, rfl⟩, q⟩ := h
    obtain ⟨v, rfl, hv⟩ := dps1 hd
    refine ⟨_, (pss_cons (ps_if (PW.pt (pw_or (pt_val (pe_callB (r := rIsi K) call_isi (by rfl) T.z_isinstance boot_isinstance (pa_cons (pv 0) (pa_cons (pe_bltn (v := .ty "list") (by rfl) T.z_list boot_list rfl) pa_nil)))) (pw_or1 (pt_val (pe_callB (r := rIsi K) call_isi (by rfl) T.z_isinstance boot_isinstance (pa_cons (pv 0) (pa_cons (pe_bltn (v := .ty "tuple") (by rfl) T.z_tuple boot_tuple rfl) pa_nil))))))) (pss_one (ps_ret (pe_callB (r := rAll K) (cr_all rfl) (by rfl) T.z_all boot_all (pa_cons (pe_lc (own := [("_law_one", 1)]) (g := gName 1) (tt := tYes) rfl sc__law_plain.nd (pi_seq (pv 0)) (blkOk_by (N := ["_law_thing", "_law_one"]) (sc := defScope s__law_plain) (by decide +kernel)) (fun _ _ _ _ _ => (pg_name (i := 1) sc__law_plain.nd rfl (.inl rfl))) (fun _ _ _ _ _ => pts_nil) (fun _ _ _ _ _ => (pe_call G__law_plain hr (by rfl) T.g__law_plain T.F__law_plain.kp T.b__law_plain .nil pass0 (pa_cons (pv 1) pa_nil)))) pa_nil)))) pss_nil)
    (pss_one (ps_ret (pe_or (pe_cmpR (r := rIsNon) op_isNR (pv 0) pe_non (nomark _)) (pe_or (pe_callB (r := rIsi K) call_isi (by rfl) T.z_isinstance boot_isinstance (pa_cons (pv 0) (pa_cons (pe_bltn (v := .ty "str") (by rfl) T.z_str boot_str rfl) pa_nil))) (pe_one (pe_and (pe_callB (r := rIsi K) call_isi (by rfl) T.z_isinstance boot_isinstance (pa_cons (pv 0) (pa_cons (pe_bltn (v := .ty "int") (by rfl) T.z_int boot_int rfl) pa_nil))) (pe_one (pe_not (pe_callB (r := rIsi K) call_isi (by rfl) T.z_isinstance boot_isinstance (pa_cons (pv 0) (pa_cons (pe_bltn (v := .ty "bool") (by rfl) T.z_bool boot_bool rfl) pa_nil)))))))))))), ?_⟩
    have leaf : (x = .none ∨ (∃ s, x = .str s) ∨ ∃ i, x = .int i) ∨ ∃ k ds, m = k + 1 ∧ (x = .list ds ∨ x = .tuple ds) ∧ ds.length ≤ 100000 ∧ ∀ y ∈ ds, Pl k y := by
      cases m with
      | zero => exact .inl hx
      | succ k =>
        rcases hx with h | ⟨ds, h1, h2, h3⟩
        · exact .inl h
        · exact .inr ⟨k, ds, rfl, h1, h2, h3⟩
    rcases leaf with (rfl | ⟨z, rfl⟩ | ⟨i, rfl⟩) | ⟨k, ds, rfl, hl, hlen, hall⟩
    · refine qSkip (orFF (etV (edIsi (edV rfl hv) (by decide +kernel))) (etV (edIsi (edV rfl hv) (by decide +kernel)))) fun H1 e1 => ?_
      exact sRet (edIs (edOr (a := true) (b := true) (edIsNon (edV rfl (dpUp e1 hv))) fun h => nomatch h) rfl) fun v' H2 e2 hv' => q v' H2 (e1.trans e2) hv'
    · refine qSkip (orFF (etV (edIsi (edV rfl hv) kSL)) (etV (edIsi (edV rfl hv) kST))) fun H1 e1 => ?_
      have h1 := dpUp e1 hv
      exact sRet (edIs (edOr (a := false) (b := true) (edIsNon (edV rfl h1)) fun _ => edOr (a := true) (b := true) (edIsi (edV rfl h1) kSS) fun h => nomatch h) rfl) fun v' H2 e2 hv' => q v' H2 (e1.trans e2) hv'
    · refine qSkip (orFF (etV (edIsi (edV rfl hv) kIL)) (etV (edIsi (edV rfl hv) kIT))) fun H1 e1 => ?_
      have h1 := dpUp e1 hv
      exact sRet (edIs (edOr (a := false) (b := true) (edIsNon (edV rfl h1)) fun _ => edOr (a := false) (b := true) (edIsi (edV rfl h1) kIS) fun _ => edIs (edAnd (a := true) (edIsi (edV rfl h1) kII) fun _ => edNot (edIsi (edV rfl h1) kIB)) rfl) rfl) fun v' H2 e2 hv' => q v' H2 (e1.trans e2) hv'
    · have each : ∀ y ∈ ds, ∀ (H1 : Hp) (w : V), Dp K H1 w y → EvD K (tCall (PlS K (k + 1)) [] E0 (tCons (tVar 1) tNil)) [some v, some w] H1 (.bool true) := fun y hy H1 w hw => edCall (P := PlP k) (aCons (edV rfl hw) aNil) ⟨y, hall y hy, rfl, rfl⟩
      rcases hl with rfl | rfl
      · refine q_when (b := true) (et_is (et_or (a := true) (b := true) (etV (edIsi (edV rfl hv) kLL)) fun h => nomatch h) rfl) (fun _ H1 e1 => ?_) fun h => nomatch h
        have h1 := dpUp e1 hv
        exact sRet (edAllT (L := ds) (enLcA ds id (fun _ => .bool true) (idIs (idSeqL (edV rfl h1)) (by rw [List.map_id])) hlen (fun _ _ => by rw [noL]) fun y hy H2 w e2 hw => ⟨_, tgName, rfl, each y hy H2 w hw⟩)) fun v' H2 e2 hv' => q v' H2 (e1.trans e2) hv'
      · refine q_when (b := true) (et_is (et_or (a := false) (b := true) (etV (edIsi (edV rfl hv) kTL)) fun _ => etV (edIsi (edV rfl hv) kTT)) rfl) (fun _ H1 e1 => ?_) fun h => nomatch h
        have h1 := dpUp e1 hv
        exact sRet (edAllT (L := ds) (enLcA ds id (fun _ => .bool true) (idIs (idSeqT (edV rfl h1)) (by rw [List.map_id])) hlen (fun _ _ => by rw [noL]) fun y hy H2 w e2 hw => ⟨_, tgName, rfl, each y hy H2 w hw⟩)) fun v' H2 e2 hv' => q v' H2 (e1.trans e2) hv'
theorem ok__law_plain (T : Tx K mg) : FnOk P w K mg base CX0 4 T.a__law_plain T.d__law_plain ["_law_thing"] (PrD K P__law_plain) := plain_lv T 4

end
end Dt

namespace Dt
open PySem L2 Evl PyProof.Rows
section
variable {P : Program} {w : World} {K : PySem.W.Frag} {mg : Str → Option Value} {base : Heap}
/-! what a triangle tells -/
theorem ok__law_triangle_right (T : Tx K mg) : FnOk P w K mg base CX0 6 T.a__law_triangle_right T.d__law_triangle_right ["_law_triangle"] (PrD K P__law_triangle_right) := by
  have G_fulls : FnOk P w K mg base CX0 4 T.a_fulls T.d_fulls ["triangle"] (PrN K P_fulls) := ok_fulls T
  have G_around : FnOk P w K mg base CX0 4 T.a_around T.d_around ["triangle"] (PrD K P_around) := ok_around T
  have G_doors : FnOk P w K mg base CX0 4 T.a_doors T.d_doors ["triangle"] (PrN K P_doors) := ok_doors T
  have G_turn : FnOk P w K mg base CX0 5 T.a_turn T.d_turn ["triangle", "small"] (PrD K P_turn_of) := ok_turn T
  have G_Full___init__ : FnOk P w K mg base CX0 1 T.a_Full___init__ T.d_Full___init__ ["self", "row", "place", "up"] (SpIni3 T.C_Full) := ok_Full___init__ T
  have G_Full_shows : FnOk P w K mg base CX0 4 T.a_Full_shows T.d_Full_shows ["self", "triangle"] (SpFull K (kls T)) := ok_Full_shows T
  have G_Breaks___init__ : FnOk P w K mg base CX0 1 T.a_Breaks___init__ T.d_Breaks___init__ ["self", "row", "place"] (SpIni2 T.C_Breaks) := ok_Breaks___init__ T
  have G_Breaks_shows : FnOk P w K mg base CX0 3 T.a_Breaks_shows T.d_Breaks_shows ["self", "triangle"] (SpBreaks K (kls T)) := ok_Breaks_shows T
  have G_told : FnOk P w K mg base CX0 5 T.a_told T.d_told ["triangle"] (PrA (kls T) K Q_told) := ok_told T
  have G_walk : FnOk P w K mg base CX0 5 T.a_walk T.d_walk ["triangle", "door"] (PrA (kls T) K Q_walk) := ok_walk T
  have G_walk_out : FnOk P w K mg base CX0 5 T.a_walk_out T.d_walk_out ["triangle", "small"] (PrA (kls T) K Q_walk_out) := ok_walk_out T
  have G__law_plain : FnOk P w K mg base CX0 4 T.a__law_plain T.d__law_plain ["_law_thing"] (PrD K P__law_plain) := ok__law_plain T
  have G__law_truths : FnOk P w K mg base CX0 1 T.a__law_truths T.d__law_truths ["_law_things"] (PrD K P__law_truths) := ok__law_truths T
  refine T.F__law_triangle_right.ok sc__law_triangle_right (prdLen (n := 1) fun ds d h => by obtain ⟨_, _, _, _, rfl, _⟩ := h; rfl) (fun cdv A outer s H vs Q E hr h => ?_)
  obtain ⟨ds, d, hd, ⟨n, g, tri, h30, rfl, rfl⟩, q⟩ := h
  obtain ⟨v, rfl, hv⟩ := dps1 hd
  refine ⟨_, (pss_cons (ps_par (i := 1) (j := 2) rfl sc__law_triangle_right.nd rfl rfl (by decide) rfl rfl (pa_cons (pe_lst (pa_cons (pe_call G_fulls (hr.mono (by decide)) (by rfl) T.g_fulls T.F_fulls.kp T.b_fulls .nil pass0 (pa_cons (pv 0) pa_nil)) (pa_cons (pe_call G_around (hr.mono (by decide)) (by rfl) T.g_around T.F_around.kp T.b_around .nil pass0 (pa_cons (pv 0) pa_nil)) (pa_cons (pe_call G_doors (hr.mono (by decide)) (by rfl) T.g_doors T.F_doors.kp T.b_doors .nil pass0 (pa_cons (pv 0) pa_nil)) pa_nil)))) (pa_cons (pe_call G_told (hr.mono (by decide)) (by rfl) T.g_told T.F_told.kp T.b_told .nil pass0 (pa_cons (pv 0) pa_nil)) pa_nil)) (by rfl))
    (pss_cons (ps_set (i := 1) sc__law_triangle_right.nd rfl (.inl rfl) (pe_op op_cat (pv 1) (pe_lst (pa_cons (pe_fld (pv 2) rfl) (pa_cons (pe_fld (pv 2) rfl) pa_nil)))))
    (pss_cons (ps_if (pt_val (pe_callB (r := rIsi K) call_isi (by rfl) T.z_isinstance boot_isinstance (pa_cons (pv 2) (pa_cons (pe_glob (v := .ref T.C_Full) (by rfl) T.g_Full rfl) pa_nil)))) (pss_one (ps_expr (pe_bm PySem.F.plainAttrs_list PySem.F.slot_list_append PySem.F.type_list_append mt_append (pv 1) (pa_cons (pe_fld (pv 2) rfl) pa_nil)))) pss_nil)
    (pss_cons (ps_setLc (i := 3) (own := [("_law_built", 6)]) (g := gName 6) (tt := tYes) rfl sc__law_triangle_right.nd rfl rfl (sw_true rfl rfl rfl (by decide +kernel)) (pi_list (pe_lst (pa_cons (pv 2) (pa_cons (pe_make T.mk_Full G_Full___init__ (hr.mono (by decide)) (by rfl) T.g_Full T.b_Full___init__ .nil pass0 (pa_cons pe_int (pa_cons pe_int (pa_cons pe_int pa_nil)))) (pa_cons (pe_make T.mk_Breaks G_Breaks___init__ (hr.mono (by decide)) (by rfl) T.g_Breaks T.b_Breaks___init__ .nil pass0 (pa_cons pe_int (pa_cons pe_int pa_nil))) pa_nil))))) (blkOk_by (N := ["_law_triangle", "_law_found", "_law_answer", "_law_shown", "_law_walks", "_law_one", "_law_built", "_law_door", "_law_small"]) (sc := defScope s__law_triangle_right) (by decide +kernel)) (fun _ _ _ _ _ => (pg_name (i := 6) sc__law_triangle_right.nd rfl (.inl rfl))) (fun _ _ _ _ _ => pts_nil) (fun _ _ _ _ _ => (pe_orR (pe_meth (pv 6) T.o_Full.cl T.m_Full_shows G_Full_shows (hr.mono (by decide)) T.b_Full_shows .nil pass0 (pa_cons (pv 0) pa_nil)) (pe_meth (pv 6) T.o_Breaks.cl T.m_Breaks_shows G_Breaks_shows (hr.mono (by decide)) T.b_Breaks_shows .nil pass0 (pa_cons (pv 0) pa_nil)))))
    (pss_cons (ps_setLc (i := 4) (own := [("_law_door", 7)]) (g := gName 7) (tt := tYes) rfl sc__law_triangle_right.nd rfl rfl (sw_true rfl rfl rfl (by decide +kernel)) (pi_list (pe_call G_doors (hr.mono (by decide)) (by rfl) T.g_doors T.F_doors.kp T.b_doors .nil pass0 (pa_cons (pv 0) pa_nil))) (blkOk_by (N := ["_law_triangle", "_law_found", "_law_answer", "_law_shown", "_law_walks", "_law_one", "_law_built", "_law_door", "_law_small"]) (sc := defScope s__law_triangle_right) (by decide +kernel)) (fun _ _ _ _ _ => (pg_name (i := 7) sc__law_triangle_right.nd rfl (.inl rfl))) (fun _ _ _ _ _ => pts_nil) (fun _ _ _ _ _ => (pe_call G_walk (hr.mono (by decide)) (by rfl) T.g_walk T.F_walk.kp T.b_walk .nil pass0 (pa_cons (pv 0) (pa_cons (pv 7) pa_nil)))))
    (pss_cons (ps_for PassesOwn.never rfl (pi_list (pe_op op_cat (pv 4) (pe_lc (own := [("_law_small", 8)]) (g := gName 8) (tt := tYes) rfl sc__law_triangle_right.nd (pi_list (pe_call G_fulls (hr.mono (by decide)) (by rfl) T.g_fulls T.F_fulls.kp T.b_fulls .nil pass0 (pa_cons (pv 0) pa_nil))) (blkOk_by (N := ["_law_triangle", "_law_found", "_law_answer", "_law_shown", "_law_walks", "_law_one", "_law_built", "_law_door", "_law_small"]) (sc := defScope s__law_triangle_right) (by decide +kernel)) (fun _ _ _ _ _ => (pg_name (i := 8) sc__law_triangle_right.nd rfl (.inl rfl))) (fun _ _ _ _ _ => pts_nil) (fun _ _ _ _ _ => (pe_call G_walk_out (hr.mono (by decide)) (by rfl) T.g_walk_out T.F_walk_out.kp T.b_walk_out .nil pass0 (pa_cons (pv 0) (pa_cons (pv 8) pa_nil))))))) (pg_name (i := 5) sc__law_triangle_right.nd rfl (.inl rfl))
      (pss_cons (ps_set (i := 1) sc__law_triangle_right.nd rfl (.inl rfl) (pe_op op_cat (pv 1) (pe_ifExp (pt_val (pe_callB (r := rIsi K) call_isi (by rfl) T.z_isinstance boot_isinstance (pa_cons (pv 5) (pa_cons (pe_glob (v := .ref T.C_Out) (by rfl) T.g_Out rfl) pa_nil)))) (pe_lst (pa_cons (pe_fld (pv 5) rfl) (pa_cons (pe_fld (pv 5) rfl) pa_nil))) (pe_lst (pa_cons (pe_fld (pv 5) rfl) pa_nil)))))
    (pss_one (ps_if (PW.pt (pw_or (pt_not (pt_val (pe_callB (r := rIsiT K) call_isiT (by rfl) T.z_isinstance boot_isinstance (pa_cons (pv 5) (pa_cons (pe_tup (pa_cons (pe_glob (v := .ref T.C_Ended) (by rfl) T.g_Ended rfl) (pa_cons (pe_glob (v := .ref T.C_Out) (by rfl) T.g_Out rfl) pa_nil))) pa_nil))))) (pw_or1 (pt_not (pt_val (pe_callB (r := rAll K) (cr_all rfl) (by rfl) T.z_all boot_all (pa_cons (pe_lc (own := [("_law_small", 8)]) (g := gName 8) (tt := tYes) rfl sc__law_triangle_right.nd (pi_list (pe_fld (pv 5) rfl)) (blkOk_by (N := ["_law_triangle", "_law_found", "_law_answer", "_law_shown", "_law_walks", "_law_one", "_law_built", "_law_door", "_law_small"]) (sc := defScope s__law_triangle_right) (by decide +kernel)) (fun _ _ _ _ _ => (pg_name (i := 8) sc__law_triangle_right.nd rfl (.inl rfl))) (fun _ _ _ _ _ => pts_nil) (fun _ _ _ _ _ => (pe_callB (r := rIsi K) call_isi (by rfl) T.z_isinstance boot_isinstance (pa_cons (pv 8) (pa_cons (pe_bltn (v := .ty "tuple") (by rfl) T.z_tuple boot_tuple rfl) pa_nil))))) pa_nil))))))) (pss_one (ps_ret pe_bl)) pss_nil))))
    (pss_cons (ps_set (i := 1) sc__law_triangle_right.nd rfl (.inl rfl) (pe_op op_cat (pv 1) (pe_lc (own := [("_law_small", 8)]) (g := gName 8) (tt := tYes) rfl sc__law_triangle_right.nd (pi_list (pe_op op_cat (pe_call G_fulls (hr.mono (by decide)) (by rfl) T.g_fulls T.F_fulls.kp T.b_fulls .nil pass0 (pa_cons (pv 0) pa_nil)) (pe_lst (pa_cons (pe_tup (pa_cons pe_int (pa_cons pe_int (pa_cons pe_int pa_nil)))) pa_nil)))) (blkOk_by (N := ["_law_triangle", "_law_found", "_law_answer", "_law_shown", "_law_walks", "_law_one", "_law_built", "_law_door", "_law_small"]) (sc := defScope s__law_triangle_right) (by decide +kernel)) (fun _ _ _ _ _ => (pg_name (i := 8) sc__law_triangle_right.nd rfl (.inl rfl))) (fun _ _ _ _ _ => pts_nil) (fun _ _ _ _ _ => (pe_call G_turn (hr.mono (by decide)) (by rfl) T.g_turn T.F_turn.kp T.b_turn .nil pass0 (pa_cons (pv 0) (pa_cons (pv 8) pa_nil)))))))
    (pss_one (ps_ret (pe_and (pe_call G__law_plain (hr.mono (by decide)) (by rfl) T.g__law_plain T.F__law_plain.kp T.b__law_plain .nil pass0 (pa_cons (pv 1) pa_nil)) (pe_one (pe_call G__law_truths (hr.mono (by decide)) (by rfl) T.g__law_truths T.F__law_truths.kp T.b__law_truths .nil pass0 (pa_cons (pv 3) pa_nil))))))))))))), ?_⟩
  have lo := tri.lo
  have hi := tri.hi
  have dle := doorsLe n g
  have fle : (fullsOf n g).length ≤ 30 * 60 := Nat.le_trans (List.length_filter_le _ _) (Nat.le_trans (smLen n (n - 1)) (Nat.mul_le_mul (show n - 1 ≤ 30 by omega) (show n * 2 ≤ 60 by omega)))
  have hA : (∃ r p u : Int, toldOf n g = .full r p u) ∨ ∃ r p : Int, toldOf n g = .breaks r p := by
    unfold toldOf
    split
    · exact .inr ⟨_, _, rfl⟩
    · split
      · exact .inl ⟨_, _, _, rfl⟩
      · exact .inr ⟨_, _, rfl⟩
  refine qParNA (c := kls T) (enLst (aCons (edN (enCall (aCons (edV rfl hv) aNil) ⟨n, g, tri, rfl, rfl⟩)) (aCons (edCall (aCons (edV rfl hv) aNil) ⟨n, g, tri, rfl, rfl⟩) (aCons (edN (enCall (aCons (edV rfl hv) aNil) ⟨n, g, tri, rfl, rfl⟩)) aNil))) (Nat.le_of_ble_eq_true rfl)) (eaCall (aCons (edV rfl hv) aNil) ⟨n, g, tri, rfl, rfl⟩) fun p1 xs1 x2 H2 e2 h1 d1 an => ?_
  generalize toldOf n g = TA at hA an
  have fr : ∃ (r p u : Int) (b : Bool), (∀ {σ : L2.St} {H' : Hp}, Ex H2 H' → σ[2]? = some (some (.ref x2)) → EvD K (tFld K (tVar 2) "row") σ H' (.int r)) ∧ (∀ {σ : L2.St} {H' : Hp}, Ex H2 H' → σ[2]? = some (some (.ref x2)) → EvD K (tFld K (tVar 2) "place") σ H' (.int p)) ∧ (∀ {σ : L2.St} {H' : Hp}, Ex H2 H' → σ[2]? = some (some (.ref x2)) → EvD K (tCB (rIsi K) (tCons (tVar 2) (tCons (tC (.ref T.C_Full)) tNil))) σ H' (.bool b)) ∧ (b = true → ∀ {σ : L2.St} {H' : Hp}, Ex H2 H' → σ[2]? = some (some (.ref x2)) → EvD K (tFld K (tVar 2) "up") σ H' (.int u)) := by
    rcases hA with ⟨r, p, u, rfl⟩ | ⟨r, p, rfl⟩
    · have an2 := an
      obtain ⟨dx, han⟩ := an
      exact ⟨r, p, u, true, fun e hs => edFld (ev_var hs) (e _ _ han) T.o_Full.cl T.n_Full_row lkHd (.int r), fun e hs => edFld (ev_var hs) (e _ _ han) T.o_Full.cl T.n_Full_place ((lkTl nPR).trans lkHd) (.int p), fun e hs => edIsiX (c := kls T) (ev_var hs) (an2.up e) T.o_Full T.i_Full_Full, fun _ {σ H'} e hs => edFld (ev_var hs) (e _ _ han) T.o_Full.cl T.n_Full_up ((lkTl nUR).trans ((lkTl nUP).trans lkHd)) (.int u)⟩
    · have an2 := an
      obtain ⟨dx, han⟩ := an
      exact ⟨r, p, 0, false, fun e hs => edFld (ev_var hs) (e _ _ han) T.o_Breaks.cl T.n_Breaks_row lkHd (.int r), fun e hs => edFld (ev_var hs) (e _ _ han) T.o_Breaks.cl T.n_Breaks_place ((lkTl nPR).trans lkHd) (.int p), fun e hs => edIsiX (c := kls T) (ev_var hs) (an2.up e) T.o_Breaks T.i_Breaks_Full, fun h => nomatch h⟩
  obtain ⟨r0, p0, u0, b0, fRow, fPlace, fIs, fUp⟩ := fr
  refine qCatX rfl h1 d1 (enLst (aCons (fRow (Ex.refl _) rfl) (aCons (fPlace (Ex.refl _) rfl) aNil)) (Nat.le_of_ble_eq_true rfl)) (Nat.le_of_ble_eq_true rfl) fun l3 ys3 Hb H3 eb nb e3 h3 d3 => ?_
  have e23 := eb.trans e3
  refine qIfAppI (etV (fIs e23 rfl)) rfl h3 (by rw [dpsLen d3]; exact Nat.lt_of_sub_pos (Nat.zero_lt_succ _)) (fun hb H1 e1 => fUp hb (e23.trans e1) rfl) fun H4 zs h4 => ?_
  obtain ⟨ez, e4b, h4l, d4, ezp, ezl⟩ : ∃ ez : List PyData, Ex Hb H4 ∧ H4 l3 = some (.lst (ys3 ++ zs)) ∧ DpAll K H4 zs ez ∧ (∀ e ∈ ez, Pl 2 e) ∧ ez.length ≤ 1 := by
    obtain ⟨H0, e0, (⟨rfl, rfl⟩ | ⟨rfl, rfl⟩)⟩ := h4
    · exact ⟨[], e3.trans e0, by rw [List.append_nil]; exact e0 _ _ h3, .nil, (fun e he => nomatch he), Nat.zero_le _⟩
    · exact ⟨[.int u0], (e3.trans e0).mut nb, upd_same, .cons (.int _) .nil, (fun e he => by rw [List.mem_singleton] at he; rw [he]; exact plInt 2 _), Nat.le_refl _⟩
  have e24 := eb.trans e4b
  have dF4 := dpsApp (dpsUp e4b d3) d4
  have plF : ∀ e ∈ ([PyData.list ((fullsOf n g).map smD), .int (aroundOf (pairs (codes n g))), .list ((doorsOf (pairs (codes n g))).map fun i => .int (i : Nat))] ++ [PyData.int r0, PyData.int p0]) ++ ez, Pl 2 e := fun e he => by
    rcases List.mem_append.mp he with he | he
    · simp only [List.cons_append, List.nil_append, List.mem_cons, List.not_mem_nil, or_false] at he
      rcases he with rfl | rfl | rfl | rfl | rfl
      · exact plSms _ (by omega)
      · exact plInt 2 _
      · exact plNats _ (by omega)
      · exact plInt 2 _
      · exact plInt 2 _
    · exact ezp e he
  have lnF : (([PyData.list ((fullsOf n g).map smD), .int (aroundOf (pairs (codes n g))), .list ((doorsOf (pairs (codes n g))).map fun i => .int (i : Nat))] ++ [PyData.int r0, PyData.int p0]) ++ ez).length ≤ 6 := by
    rw [List.length_append]
    show 5 + ez.length ≤ 6
    omega
  generalize ([PyData.list ((fullsOf n g).map smD), .int (aroundOf (pairs (codes n g))), .list ((doorsOf (pairs (codes n g))).map fun i => .int (i : Nat))] ++ [PyData.int r0, PyData.int p0]) ++ ez = dsF at dF4 plF lnF
  generalize ys3 ++ zs = vsF at h4l dF4
  have hv4 := dpUp (e2.trans e24) hv
  -- shown
  refine qAsgN (enLcR (c := kls T) (fun a => .bool (dueB n g a)) (ealLst3 rfl (an.up e24) (eaFull (c := kls T) (aCons (cI 0) (aCons (cI 0) (aCons (cI 1) aNil)))) (eaBreaks (c := kls T) (aCons (cI 0) (aCons (cI 0) aNil)))) (Nat.le_of_ble_eq_true rfl) (fun _ _ => by rw [noL]) fun a ha H5 x H0 e5 han => ⟨_, tgName, rfl, ?_⟩) fun p5 xs5 H5 hp5 e5 h5 d5 => ?_
  · have hv5 := dpUp e5 hv4
    have fb : (∃ r p u : Int, a = .full r p u) ∨ ∃ r p : Int, a = .breaks r p := by
      simp only [List.mem_cons, List.not_mem_nil, or_false] at ha
      rcases ha with rfl | rfl | rfl
      · exact hA
      · exact .inl ⟨0, 0, 1, rfl⟩
      · exact .inr ⟨0, 0, rfl⟩
    rcases fb with ⟨r, p, u, rfl⟩ | ⟨r, p, rfl⟩
    · obtain ⟨dx, han⟩ := han
      exact edOrL (edFullShows (c := kls T) tri (ev_var rfl) han (aCons (edV rfl hv5) aNil))
    · obtain ⟨dx, han⟩ := han
      exact edOrR (edBreaksShows (c := kls T) tri (ev_var rfl) han (aCons (edV rfl hv5) aNil))
  have hSh := dpOfL h5 d5
  have hv5 := dpUp e5 hv4
  -- walks
  have wE := fun i => (walkEx tri i)
  have wO := fun sm => (walkOutEx tri sm)
  obtain ⟨fw, fwp⟩ : ∃ fw : Nat → List Sm × Option Nat, ∀ i, i ∈ doorsOf (pairs (codes n g)) → Q_walk [.list (triD n g), .int (i : Nat)] (ansOf (fw i).1 (fw i).2) ∧ (fw i).1.length ≤ 20000 := ⟨fun i => Classical.choose (wE i), fun i => Classical.choose_spec (wE i)⟩
  obtain ⟨fo, fop⟩ : ∃ fo : Sm → List Sm × Option Nat, ∀ sm, sm ∈ fullsOf n g → Q_walk_out [.list (triD n g), smD sm] (ansOf (fo sm).1 (fo sm).2) ∧ (fo sm).1.length ≤ 20000 := ⟨fun i => Classical.choose (wO i), fun i => Classical.choose_spec (wO i)⟩
  refine qAsgL (c := kls T) (ealLc (doorsOf (pairs (codes n g))) (fun i => .int (i : Nat)) (fun i => ansOf (fw i).1 (fw i).2) (idL (edN (enCall (aCons (edV rfl hv5) aNil) ⟨n, g, tri, rfl, rfl⟩))) (by omega) (fun i _ => noLAns _ _) fun i hin H6 x e6 hx => ⟨_, tgName, rfl, eaCall (aCons (edV rfl (dpUp e6 hv5)) (aCons (edV rfl hx) aNil)) (fwp i hin).1⟩) fun p6 xs6 H6 hp6 e6 h6 al6 => ?_
  have hv6 := dpUp e6 hv5
  refine qForA (c := kls T) (as := (doorsOf (pairs (codes n g))).map (fun i => ansOf (fw i).1 (fw i).2) ++ (fullsOf n g).map (fun sm => ansOf (fo sm).1 (fo sm).2)) (ealCatV rfl h6 al6 (ealLc (fullsOf n g) smD (fun sm => ansOf (fo sm).1 (fo sm).2) (idL (edN (enCall (aCons (edV rfl hv6) aNil) ⟨n, g, tri, rfl, rfl⟩))) (by omega) (fun i _ => noLAns _ _) fun sm hin H7 x e7 hx => ⟨_, tgName, rfl, eaCall (aCons (edV rfl (dpUp e7 hv6)) (aCons (edV rfl hx) aNil)) (fop sm hin).1⟩) (by rw [List.length_map, List.length_map]; omega)) fun H7 e7 => ?_
  have asF : ∀ a ∈ (doorsOf (pairs (codes n g))).map (fun i => ansOf (fw i).1 (fw i).2) ++ (fullsOf n g).map (fun sm => ansOf (fo sm).1 (fo sm).2), ∃ l e, a = ansOf l e ∧ l.length ≤ 20000 := fun a ha => by
    rcases List.mem_append.mp ha with ha | ha
    · obtain ⟨i, hi, rfl⟩ := List.mem_map.mp ha
      exact ⟨_, _, rfl, (fwp i hi).2⟩
    · obtain ⟨i, hi, rfl⟩ := List.mem_map.mp ha
      exact ⟨_, _, rfl, (fop i hi).2⟩
  have asL : ((doorsOf (pairs (codes n g))).map (fun i => ansOf (fw i).1 (fw i).2) ++ (fullsOf n g).map (fun sm => ansOf (fo sm).1 (fo sm).2)).length ≤ 2000 := by
    rw [List.length_append, List.length_map, List.length_map]
    omega
  generalize (doorsOf (pairs (codes n g))).map (fun i => ansOf (fw i).1 (fw i).2) ++ (fullsOf n g).map (fun sm => ansOf (fo sm).1 (fo sm).2) = as at asF asL
  have e47 := (e5.trans e6).trans e7
  have hv7 := dpUp e7 hv6
  have hSh7 := dpUp (e6.trans e7) hSh
  refine ⟨fun i σ' H' => ∃ pc vs ds y5 y6 y7 y8, σ' = [some v, some (.ref pc), some (.ref x2), some (.ref p5), some (.ref p6), y5, y6, y7, y8] ∧ Ex H7 H' ∧ H' pc = some (.lst vs) ∧ DpAll K H' vs ds ∧ (∀ e ∈ ds, Pl 2 e) ∧ ds.length ≤ 6 + 2 * i, ⟨l3, vsF, dsF, _, _, _, _, rfl, Ex.refl _, e47 _ _ h4l, dpsUp e47 dF4, plF, lnF⟩, fun i σ' H' h => by obtain ⟨_, _, _, _, _, _, _, _, k, _⟩ := h; exact k, ?_, ?_⟩
  · rintro i a ha σ1 H8 x H0 ⟨pc, vs, ds, y5, y6, y7, y8, rfl, e8, hpc, hds, pl, ln⟩ han
    refine tgName _ ?_
    have hi2 := (List.getElem?_eq_some_iff.mp ha).1
    obtain ⟨l, e, rfl, hl⟩ := asF a (List.mem_of_getElem? ha)
    have oC : OwnC K (clsOf (kls T) (ansOf l e)) := by cases e <;> first | exact T.o_Ended | exact T.o_Out
    have nS : NoAttr K (clsOf (kls T) (ansOf l e)) "smalls" := by cases e <;> first | exact T.n_Ended_smalls | exact T.n_Out_smalls
    have kO : PySem.W.kitOne K (.ref (clsOf (kls T) (ansOf l e))) (.ref T.C_Out) = some e.isSome := by cases e <;> first | exact T.i_Ended_Out | exact T.i_Out_Out
    have kEO : PySem.W.kitAny K (.ref (clsOf (kls T) (ansOf l e))) [.ref T.C_Ended, .ref T.C_Out] = some true := by
      cases e with
      | none => exact kitFst T.i_Ended_Ended
      | some j => exact kitSnd T.i_Out_Ended T.i_Out_Out
    obtain ⟨es, hes, esp, esl⟩ : ∃ es : List PyData, EvN K (tIf (tB (tCB (rIsi K) (tCons (tVar 5) (tCons (tC (.ref T.C_Out)) tNil)))) (tLst (tCons (tFld K (tVar 5) "smalls") (tCons (tFld K (tVar 5) "door") tNil))) (tLst (tCons (tFld K (tVar 5) "smalls") tNil))) [some v, some (.ref pc), some (.ref x2), some (.ref p5), some (.ref p6), some (.ref x), y6, y7, y8] H8 es ∧ (∀ e ∈ es, Pl 2 e) ∧ es.length ≤ 2 := by
      cases e with
      | none => exact ⟨[.list (l.map smD)], enIf (b := false) (etV (edIsiX (c := kls T) (ev_var rfl) han oC kO)) (fun h => nomatch h) (fun _ => enLst (aCons (edSmalls (c := kls T) (ev_var rfl) han oC nS) aNil) (Nat.le_of_ble_eq_true rfl)), (fun z hz => by rw [List.mem_singleton] at hz; rw [hz]; exact plSms l (by omega)), by simp⟩
      | some j => exact ⟨[.list (l.map smD), .int (j : Nat)], enIf (b := true) (etV (edIsiX (c := kls T) (ev_var rfl) han oC kO)) (fun _ => enLst (aCons (edSmalls (c := kls T) (ev_var rfl) han oC nS) (aCons (edDoor (c := kls T) (ev_var rfl) han T.o_Out T.n_Out_door) aNil)) (Nat.le_of_ble_eq_true rfl)) (fun h => nomatch h), (fun z hz => by
          simp only [List.mem_cons, List.not_mem_nil, or_false] at hz
          rcases hz with rfl | rfl
          · exact plSms l (by omega)
          · exact plInt 2 _), by simp⟩
    refine qCatX rfl hpc hds hes (by omega) fun l9 ys9 Hc H9 ec nc e9 h9 d9 => ?_
    have e89 := ec.trans e9
    have han9 := han.up e89
    refine sSkip (orFF (notT (etV (by
      obtain ⟨dx, fs, q9, f1, f2, f3⟩ := ansSmalls han9
      exact edIsiO2 (ev_var rfl) f1 oC kEO))) (notT (etV (edAllT (L := l) (enLcA l smD (fun _ => .bool true) (idL (edSmalls (c := kls T) (ev_var rfl) han9 oC nS)) (by omega) (fun _ _ => by rw [noL]) fun sm _ H10 w e10 hw => ⟨_, tgName, rfl, edIsi (edV rfl hw) kTT⟩))))) fun H10 e10 => ⟨l9, ys9, ds ++ es, _, _, _, _, rfl, (e8.trans e89).trans e10, e10 _ _ h9, dpsUp (e9.trans e10) d9, fun z hz => ?_, by rw [List.length_append]; omega⟩
    rcases List.mem_append.mp hz with hz | hz
    · exact pl z hz
    · exact esp z hz
  · rintro σ1 H8 ⟨pc, vs, ds, y5, y6, y7, y8, rfl, e8, hpc, hds, pl, ln⟩
    have hv8 := dpUp e8 hv7
    have s001 : isSm n (0, 0, 1) := .inl ⟨rfl, by show 0 + 0 + 1 < n; omega⟩
    refine qCatX rfl hpc hds (enLcA (fullsOf n g ++ [(0, 0, 1)]) smD (fun sm => .int (trn g sm)) (idL (edN (enIs (enCat (enCall (aCons (edV rfl hv8) aNil) ⟨n, g, tri, rfl, rfl⟩) (enLst (aCons (edTup (aCons (cI 0) (aCons (cI 0) (aCons (cI 1) aNil))) (Nat.le_of_ble_eq_true rfl)) aNil) (Nat.le_of_ble_eq_true rfl)) (by rw [List.length_map]; show _ + 1 ≤ _; omega)) (by rw [List.map_append]; rfl)))) (by rw [List.length_append]; show _ + 1 ≤ _; omega) (fun _ _ => by rw [noL]) fun sm hsm H9 w e9 hw => ⟨_, tgName, rfl, edCall (aCons (edV rfl (dpUp e9 hv8)) (aCons (edV rfl hw) aNil)) ⟨n, g, sm, tri, ?_, rfl, rfl⟩⟩) (by rw [List.length_map, List.length_append]; show _ + (_ + 1) ≤ _; omega) fun l9 ys9 Hc H9 ec nc e9 h9 d9 => ?_
    · rcases List.mem_append.mp hsm with h | h
      · exact smAll_is (List.mem_filter.mp h).1
      · rw [List.mem_singleton] at h
        rw [h]
        exact s001
    · have e89 := ec.trans e9
      refine sRet (edIs (edAnd (a := true) (b := true) (edCall (aCons (edV rfl (dpOfL h9 (dpsUp e9 d9))) aNil) ⟨_, .inr ⟨_, .inl rfl, ?_, fun z hz => ?_⟩, rfl, rfl⟩) fun _ => edCall (aCons (edV rfl (dpUp (e8.trans e89) hSh7)) aNil) ⟨[dueB n g TA, dueB n g (.full 0 0 1), dueB n g (.breaks 0 0)], Nat.le_of_ble_eq_true rfl, rfl, rfl⟩) rfl) fun v' H10 e10 hv' => q v' H10 (((((e2.trans e24).trans e47).trans e8).trans e89).trans e10) hv'
      · rw [List.length_append, List.length_map, List.length_append]
        show _ + (_ + 1) ≤ _
        omega
      · rcases List.mem_append.mp hz with hz | hz
        · exact pl z hz
        · obtain ⟨sm, _, rfl⟩ := List.mem_map.mp hz
          exact plInt 2 _

end
end Dt

namespace Dt
open PySem L2 Evl PyProof.Rows
section
variable {P : Program} {w : World} {K : PySem.W.Frag} {mg : Str → Option Value} {base : Heap}
/-! by hand as on paper -/
theorem ok__law_walks_promises (T : Tx K mg) : FnOk P w K mg base CX0 6 T.a__law_walks_promises T.d__law_walks_promises ["_law_two", "_law_three", "_law_back"] (PrD K P__law_walks_promises) := by
  have G_put : FnOk P w K mg base CX0 4 T.a_put T.d_put ["triangle", "row", "place", "letter"] (PrN K P_put) := ok_put T
  have G_told : FnOk P w K mg base CX0 5 T.a_told T.d_told ["triangle"] (PrA (kls T) K Q_told) := ok_told T
  have G_walk : FnOk P w K mg base CX0 5 T.a_walk T.d_walk ["triangle", "door"] (PrA (kls T) K Q_walk) := ok_walk T
  have G_walk_out : FnOk P w K mg base CX0 5 T.a_walk_out T.d_walk_out ["triangle", "small"] (PrA (kls T) K Q_walk_out) := ok_walk_out T
  refine T.F__law_walks_promises.ok sc__law_walks_promises (prdLen (n := 3) fun ds d h => by obtain ⟨rfl, _⟩ := h; rfl) (fun cdv A outer s H vs Q E hr h => ?_)
  obtain ⟨ds, d, hd, ⟨rfl, rfl⟩, q⟩ := h
  obtain ⟨v0, v1, v2, rfl, h0, h1, h2⟩ := dps3 hd
  refine ⟨_, (pss_cons (ps_if (PW.pt (pw_or (pt_not (pt_val (pe_callB (r := rIsi K) call_isi (by rfl) T.z_isinstance boot_isinstance (pa_cons (pe_call G_told (hr.mono (by decide)) (by rfl) T.g_told T.F_told.kp T.b_told .nil pass0 (pa_cons (pv 0) pa_nil)) (pa_cons (pe_glob (v := .ref T.C_Full) (by rfl) T.g_Full rfl) pa_nil))))) (pw_or1 (pt_not (pt_val (pe_callB (r := rIsi K) call_isi (by rfl) T.z_isinstance boot_isinstance (pa_cons (pe_call G_told (hr.mono (by decide)) (by rfl) T.g_told T.F_told.kp T.b_told .nil pass0 (pa_cons (pv 1) pa_nil)) (pa_cons (pe_glob (v := .ref T.C_Full) (by rfl) T.g_Full rfl) pa_nil)))))))) (pss_one (ps_ret pe_bl)) pss_nil)
    (pss_cons (ps_if (PW.pt (pw_or (pt_not (pt_val (pe_callB (r := rIsi K) call_isi (by rfl) T.z_isinstance boot_isinstance (pa_cons (pe_call G_told (hr.mono (by decide)) (by rfl) T.g_told T.F_told.kp T.b_told .nil pass0 (pa_cons (pv 2) pa_nil)) (pa_cons (pe_glob (v := .ref T.C_Breaks) (by rfl) T.g_Breaks rfl) pa_nil))))) (pw_or1 (pt_cmpR (r := rNeD K) (op_neD hr.units) (pe_tup (pa_cons (pe_fld (pe_call G_told (hr.mono (by decide)) (by rfl) T.g_told T.F_told.kp T.b_told .nil pass0 (pa_cons (pv 2) pa_nil)) rfl) (pa_cons (pe_fld (pe_call G_told (hr.mono (by decide)) (by rfl) T.g_told T.F_told.kp T.b_told .nil pass0 (pa_cons (pv 2) pa_nil)) rfl) pa_nil))) (pe_tup (pa_cons pe_int (pa_cons pe_int pa_nil))) (nomark _))))) (pss_one (ps_ret pe_bl)) pss_nil)
    (pss_cons (ps_if (pt_cmpR (r := rNeD K) (op_neD hr.units) (pe_tup (pa_cons (pe_fld (pe_call G_told (hr.mono (by decide)) (by rfl) T.g_told T.F_told.kp T.b_told .nil pass0 (pa_cons (pe_lst (pa_cons pe_str (pa_cons pe_str pa_nil))) pa_nil)) rfl) (pa_cons (pe_fld (pe_call G_told (hr.mono (by decide)) (by rfl) T.g_told T.F_told.kp T.b_told .nil pass0 (pa_cons (pe_lst (pa_cons pe_str (pa_cons pe_str pa_nil))) pa_nil)) rfl) pa_nil))) (pe_tup (pa_cons pe_int (pa_cons pe_int pa_nil))) (nomark _)) (pss_one (ps_ret pe_bl)) pss_nil)
    (pss_cons (ps_if (pt_cmpR (r := rNeD K) (op_neD hr.units) (pe_tup (pa_cons (pe_fld (pe_call G_told (hr.mono (by decide)) (by rfl) T.g_told T.F_told.kp T.b_told .nil pass0 (pa_cons (pe_lst (pa_cons pe_str (pa_cons pe_str (pa_cons pe_str pa_nil)))) pa_nil)) rfl) (pa_cons (pe_fld (pe_call G_told (hr.mono (by decide)) (by rfl) T.g_told T.F_told.kp T.b_told .nil pass0 (pa_cons (pe_lst (pa_cons pe_str (pa_cons pe_str (pa_cons pe_str pa_nil)))) pa_nil)) rfl) pa_nil))) (pe_tup (pa_cons pe_int (pa_cons pe_int pa_nil))) (nomark _)) (pss_one (ps_ret pe_bl)) pss_nil)
    (pss_cons (ps_if (PW.pt (pw_or (pt_cmpR (r := rNeD K) (op_neD hr.units) (pe_fld (pe_call G_walk (hr.mono (by decide)) (by rfl) T.g_walk T.F_walk.kp T.b_walk .nil pass0 (pa_cons (pv 0) (pa_cons pe_int pa_nil))) rfl) (pe_lst (pa_cons (pe_tup (pa_cons pe_int (pa_cons pe_int (pa_cons pe_int pa_nil)))) pa_nil)) (nomark _)) (pw_or1 (pt_not (pt_val (pe_callB (r := rIsi K) call_isi (by rfl) T.z_isinstance boot_isinstance (pa_cons (pe_call G_walk (hr.mono (by decide)) (by rfl) T.g_walk T.F_walk.kp T.b_walk .nil pass0 (pa_cons (pv 0) (pa_cons pe_int pa_nil))) (pa_cons (pe_glob (v := .ref T.C_Ended) (by rfl) T.g_Ended rfl) pa_nil)))))))) (pss_one (ps_ret pe_bl)) pss_nil)
    (pss_cons (ps_if (PW.pt (pw_or (pt_cmpR (r := rNeD K) (op_neD hr.units) (pe_fld (pe_call G_walk (hr.mono (by decide)) (by rfl) T.g_walk T.F_walk.kp T.b_walk .nil pass0 (pa_cons (pv 1) (pa_cons pe_int pa_nil))) rfl) (pe_lst (pa_cons (pe_tup (pa_cons pe_int (pa_cons pe_int (pa_cons pe_int pa_nil)))) (pa_cons (pe_tup (pa_cons pe_int (pa_cons pe_int (pa_cons pe_int pa_nil)))) pa_nil))) (nomark _)) (pw_or1 (pt_not (pt_val (pe_callB (r := rIsi K) call_isi (by rfl) T.z_isinstance boot_isinstance (pa_cons (pe_call G_walk (hr.mono (by decide)) (by rfl) T.g_walk T.F_walk.kp T.b_walk .nil pass0 (pa_cons (pv 1) (pa_cons pe_int pa_nil))) (pa_cons (pe_glob (v := .ref T.C_Ended) (by rfl) T.g_Ended rfl) pa_nil)))))))) (pss_one (ps_ret pe_bl)) pss_nil)
    (pss_cons (ps_par (i := 3) (j := 4) rfl sc__law_walks_promises.nd rfl rfl (by decide) rfl rfl (pa_cons (pe_call G_walk_out (hr.mono (by decide)) (by rfl) T.g_walk_out T.F_walk_out.kp T.b_walk_out .nil pass0 (pa_cons (pv 1) (pa_cons (pe_tup (pa_cons pe_int (pa_cons pe_int (pa_cons pe_int pa_nil)))) pa_nil))) (pa_cons (pe_call G_walk (hr.mono (by decide)) (by rfl) T.g_walk T.F_walk.kp T.b_walk .nil pass0 (pa_cons (pe_lst (pa_cons pe_str (pa_cons pe_str pa_nil))) (pa_cons pe_int pa_nil))) pa_nil)) (by rfl))
    (pss_cons (ps_if (PW.pt (pw_or (pt_not (pt_val (pe_callB (r := rIsi K) call_isi (by rfl) T.z_isinstance boot_isinstance (pa_cons (pv 3) (pa_cons (pe_glob (v := .ref T.C_Out) (by rfl) T.g_Out rfl) pa_nil))))) (pw_or1 (pt_cmpR (r := rNeD K) (op_neD hr.units) (pe_tup (pa_cons (pe_fld (pv 3) rfl) (pa_cons (pe_fld (pv 3) rfl) pa_nil))) (pe_tup (pa_cons (pe_lst (pa_cons (pe_tup (pa_cons pe_int (pa_cons pe_int (pa_cons pe_int pa_nil)))) (pa_cons (pe_tup (pa_cons pe_int (pa_cons pe_int (pa_cons pe_int pa_nil)))) pa_nil))) (pa_cons pe_int pa_nil))) (nomark _))))) (pss_one (ps_ret pe_bl)) pss_nil)
    (pss_cons (ps_if (PW.pt (pw_or (pt_not (pt_val (pe_callB (r := rIsi K) call_isi (by rfl) T.z_isinstance boot_isinstance (pa_cons (pv 4) (pa_cons (pe_glob (v := .ref T.C_Out) (by rfl) T.g_Out rfl) pa_nil))))) (pw_or1 (pt_cmpR (r := rNeD K) (op_neD hr.units) (pe_tup (pa_cons (pe_fld (pv 4) rfl) (pa_cons (pe_fld (pv 4) rfl) pa_nil))) (pe_tup (pa_cons (pe_lst (pa_cons (pe_tup (pa_cons pe_int (pa_cons pe_int (pa_cons pe_int pa_nil)))) pa_nil)) (pa_cons pe_int pa_nil))) (nomark _))))) (pss_one (ps_ret pe_bl)) pss_nil)
    (pss_cons (ps_if (PW.pt (pw_or (pt_cmpR (r := rNeD K) (op_neD hr.units) (pe_fld (pe_call G_walk (hr.mono (by decide)) (by rfl) T.g_walk T.F_walk.kp T.b_walk .nil pass0 (pa_cons (pe_lst (pa_cons pe_str (pa_cons pe_str pa_nil))) (pa_cons pe_int pa_nil))) rfl) pe_int (nomark _)) (pw_or (pt_cmpR (r := rNeD K) (op_neD hr.units) (pe_fld (pe_call G_walk (hr.mono (by decide)) (by rfl) T.g_walk T.F_walk.kp T.b_walk .nil pass0 (pa_cons (pe_lst (pa_cons pe_str (pa_cons pe_str pa_nil))) (pa_cons pe_int pa_nil))) rfl) pe_int (nomark _)) (pw_or1 (pt_cmpR (r := rNeD K) (op_neD hr.units) (pe_fld (pe_call G_walk_out (hr.mono (by decide)) (by rfl) T.g_walk_out T.F_walk_out.kp T.b_walk_out .nil pass0 (pa_cons (pv 0) (pa_cons (pe_tup (pa_cons pe_int (pa_cons pe_int (pa_cons pe_int pa_nil)))) pa_nil))) rfl) pe_int (nomark _)))))) (pss_one (ps_ret pe_bl)) pss_nil)
    (pss_cons (ps_if (pt_not (pt_cmpR (r := rEqD K) (op_eqD hr.units) (pe_call G_put (hr.mono (by decide)) (by rfl) T.g_put T.F_put.kp T.b_put .nil pass0 (pa_cons (pv 0) (pa_cons pe_int (pa_cons pe_int (pa_cons pe_str pa_nil))))) (pe_lst (pa_cons pe_str (pa_cons pe_str pa_nil))) (nomark _))) (pss_one (ps_ret pe_bl)) pss_nil)
    (pss_cons (ps_if (pt_not (pt_cmpR (r := rEqD K) (op_eqD hr.units) (pe_call G_put (hr.mono (by decide)) (by rfl) T.g_put T.F_put.kp T.b_put .nil pass0 (pa_cons (pv 1) (pa_cons pe_int (pa_cons pe_int (pa_cons pe_str pa_nil))))) (pe_lst (pa_cons pe_str (pa_cons pe_str (pa_cons pe_str pa_nil)))) (nomark _))) (pss_one (ps_ret pe_bl)) pss_nil)
    (pss_one (ps_ret (pe_cmpR (r := rEqD K) (op_eqD hr.units) (pe_call G_put (hr.mono (by decide)) (by rfl) T.g_put T.F_put.kp T.b_put .nil pass0 (pa_cons (pv 0) (pa_cons pe_int (pa_cons pe_int (pa_cons pe_str pa_nil))))) (pv 0) (nomark _)))))))))))))))), ?_⟩
  have q2 : Q_told [.list (triD 2 gA)] (.full 0 0 1) := ⟨2, gA, triA, rfl, toA.symm⟩
  have q3 : Q_told [.list (triD 3 g3)] (.full 0 0 0) := ⟨3, g3, tri3, rfl, to3.symm⟩
  have qb : Q_told [.list (triD 2 gB)] (.breaks 0 0) := ⟨2, gB, triB, rfl, toB.symm⟩
  have qe : Q_told [.list (triD 2 gE)] (.breaks 1 0) := ⟨2, gE, triE, rfl, toE.symm⟩
  have qj : Q_told [.list (triD 3 gJ)] (.breaks 0 1) := ⟨3, gJ, triJ, rfl, toJ.symm⟩
  refine qSkip (orFF (notT (etV (edIsiA (c := kls T) (a := .full 0 0 1) (eaCall (aCons (edV rfl h0) aNil) q2) T.o_Full T.i_Full_Full))) (notT (etV (edIsiA (c := kls T) (a := .full 0 0 0) (eaCall (aCons (edV rfl h1) aNil) q3) T.o_Full T.i_Full_Full)))) fun H1 e1 => ?_
  have h0 := dpUp e1 h0
  have h1 := dpUp e1 h1
  have h2 := dpUp e1 h2
  refine qSkip (orFF (notT (etV (edIsiA (c := kls T) (a := .breaks 0 0) (eaCall (aCons (edV rfl h2) aNil) qb) T.o_Breaks T.i_Breaks_Breaks))) (et_test (evDiff (d := .tuple [.int 0, .int 0]) (edTup (aCons (edFldA (c := kls T) (a := .breaks 0 0) (eaCall (aCons (edV rfl h2) aNil) qb) T.o_Breaks.cl T.n_Breaks_row fldBrR) (aCons (edFldA (c := kls T) (a := .breaks 0 0) (eaCall (aCons (edV rfl h2) aNil) qb) T.o_Breaks.cl T.n_Breaks_place fldBrP) aNil)) (Nat.le_of_ble_eq_true rfl)) (edTup (aCons (cI 0) (aCons (cI 0) aNil)) (Nat.le_of_ble_eq_true rfl)) (by decide +kernel)))) fun H2 e2 => ?_
  refine qSkip (et_test (evDiff (d := .tuple [.int 1, .int 0]) (edTup (aCons (edFldA (c := kls T) (a := .breaks 1 0) (eaCall (aCons (lit2 dE) aNil) qe) T.o_Breaks.cl T.n_Breaks_row fldBrR) (aCons (edFldA (c := kls T) (a := .breaks 1 0) (eaCall (aCons (lit2 dE) aNil) qe) T.o_Breaks.cl T.n_Breaks_place fldBrP) aNil)) (Nat.le_of_ble_eq_true rfl)) (edTup (aCons (cI 1) (aCons (cI 0) aNil)) (Nat.le_of_ble_eq_true rfl)) (by decide +kernel))) fun H3 e3 => ?_
  refine qSkip (et_test (evDiff (d := .tuple [.int 0, .int 1]) (edTup (aCons (edFldA (c := kls T) (a := .breaks 0 1) (eaCall (aCons (lit3 dJ) aNil) qj) T.o_Breaks.cl T.n_Breaks_row fldBrR) (aCons (edFldA (c := kls T) (a := .breaks 0 1) (eaCall (aCons (lit3 dJ) aNil) qj) T.o_Breaks.cl T.n_Breaks_place fldBrP) aNil)) (Nat.le_of_ble_eq_true rfl)) (edTup (aCons (cI 0) (aCons (cI 1) aNil)) (Nat.le_of_ble_eq_true rfl)) (by decide +kernel))) fun H4 e4 => ?_
  have e14 := (e2.trans e3).trans e4
  have h0 := dpUp e14 h0
  have h1 := dpUp e14 h1
  refine qSkip (orFF (et_test (evDiff (d := .list ([(0, 0, 1)].map smD)) (edFldA (c := kls T) (a := ansOf [(0, 0, 1)] none) (eaCall (aCons (edV rfl h0) (aCons (cI 0) aNil)) qA) T.o_Ended.cl T.n_Ended_smalls fldSm) (edN (enLst (aCons (litSm rfl rfl rfl) aNil) (Nat.le_of_ble_eq_true rfl))) (shp (smsOk [(0, 0, 1)])))) (notT (etV (edIsiA (c := kls T) (a := ansOf [(0, 0, 1)] none) (eaCall (aCons (edV rfl h0) (aCons (cI 0) aNil)) qA) T.o_Ended T.i_Ended_Ended)))) fun H5 e5 => ?_
  have h0 := dpUp e5 h0
  have h1 := dpUp e5 h1
  refine qSkip (orFF (et_test (evDiff (d := .list ([(0, 0, 1), (0, 0, 0)].map smD)) (edFldA (c := kls T) (a := ansOf [(0, 0, 1), (0, 0, 0)] none) (eaCall (aCons (edV rfl h1) (aCons (cI 0) aNil)) q3w) T.o_Ended.cl T.n_Ended_smalls fldSm) (edN (enLst (aCons (litSm rfl rfl rfl) (aCons (litSm rfl rfl rfl) aNil)) (Nat.le_of_ble_eq_true rfl))) (shp (smsOk [(0, 0, 1), (0, 0, 0)])))) (notT (etV (edIsiA (c := kls T) (a := ansOf [(0, 0, 1), (0, 0, 0)] none) (eaCall (aCons (edV rfl h1) (aCons (cI 0) aNil)) q3w) T.o_Ended T.i_Ended_Ended)))) fun H6 e6 => ?_
  have h0 := dpUp e6 h0
  have h1 := dpUp e6 h1
  refine qParAA (c := kls T) (eaCall (aCons (edV rfl h1) (aCons (litSm rfl rfl rfl) aNil)) q3o) (eaCall (aCons (lit2 dE) (aCons (cI 0) aNil)) qE0) fun x y H7 e7 anx any => ?_
  have shA : SeqAt.shaped (.tuple [.list ([(0, 0, 0), (0, 0, 1)].map smD), .int (0 : Nat)]) = true := by decide +kernel
  have shB : SeqAt.shaped (.tuple [.list ([(0, 0, 1)].map smD), .int (1 : Nat)]) = true := by decide +kernel
  refine qSkip (orFF (notT (etV (edIsiX (c := kls T) (a := ansOf [(0, 0, 0), (0, 0, 1)] (some 0)) (ev_var rfl) anx T.o_Out T.i_Out_Out))) (et_test (evDiff (edTup (aCons (edSmalls (c := kls T) (e := some 0) (ev_var rfl) anx T.o_Out T.n_Out_smalls) (aCons (edDoor (c := kls T) (ev_var rfl) anx T.o_Out T.n_Out_door) aNil)) (Nat.le_of_ble_eq_true rfl)) (edTup (aCons (edN (enLst (aCons (litSm rfl rfl rfl) (aCons (litSm rfl rfl rfl) aNil)) (Nat.le_of_ble_eq_true rfl))) (aCons (cI 0) aNil)) (Nat.le_of_ble_eq_true rfl)) shA))) fun H8 e8 => ?_
  have any8 := any.up e8
  refine qSkip (orFF (notT (etV (edIsiX (c := kls T) (a := ansOf [(0, 0, 1)] (some 1)) (ev_var rfl) any8 T.o_Out T.i_Out_Out))) (et_test (evDiff (edTup (aCons (edSmalls (c := kls T) (e := some 1) (ev_var rfl) any8 T.o_Out T.n_Out_smalls) (aCons (edDoor (c := kls T) (ev_var rfl) any8 T.o_Out T.n_Out_door) aNil)) (Nat.le_of_ble_eq_true rfl)) (edTup (aCons (edN (enLst (aCons (litSm rfl rfl rfl) aNil) (Nat.le_of_ble_eq_true rfl))) (aCons (cI 1) aNil)) (Nat.le_of_ble_eq_true rfl)) shB))) fun H9 e9 => ?_
  have e69 := (e7.trans e8).trans e9
  have h0 := dpUp e69 h0
  have h1 := dpUp e69 h1
  refine qSkip (orFF (etC (edIs (edNeI (K := K) (edFldA (c := kls T) (a := ansOf [(0, 0, 1)] (some 0)) (d := .int (0 : Nat)) (eaCall (aCons (lit2 dE) (aCons (cI 1) aNil)) qE) T.o_Out.cl T.n_Out_door fldDr) (cI 0)) rfl)) (orFF (etC (edIs (edNeI (K := K) (edFldA (c := kls T) (a := ansOf [(0, 0, 1)] (some 1)) (d := .int (1 : Nat)) (eaCall (aCons (lit2 dG) (aCons (cI 2) aNil)) qG2) T.o_Out.cl T.n_Out_door fldDr) (cI 1)) rfl)) (etC (edIs (edNeI (K := K) (edFldA (c := kls T) (a := ansOf [(0, 0, 1)] (some 0)) (d := .int (0 : Nat)) (eaCall (aCons (edV rfl h0) (aCons (litSm rfl rfl rfl) aNil)) qA1) T.o_Out.cl T.n_Out_door fldDr) (cI 0)) rfl)))) fun H10 e10 => ?_
  have h0 := dpUp e10 h0
  have h1 := dpUp e10 h1
  refine qSkip (notT (et_test (evSame (edN (enCall (aCons (edV rfl h0) (aCons (cI 1) (aCons (cI 0) (aCons (edIs (edS ev_c) (by rw [isA])) aNil)))) ⟨2, gA, 1, 0, 97, triA, by decide, .inl rfl, rfl, rfl⟩)) (lit2 dP1) (shp (triOk (putTri triA (.inl rfl) 1 0)))))) fun H11 e11 => ?_
  refine qSkip (notT (et_test (evSame (edN (enCall (aCons (edV rfl (dpUp e11 h1)) (aCons (cI 0) (aCons (cI 2) (aCons (edIs (edS ev_c) (by rw [isA])) aNil)))) ⟨3, g3, 0, 2, 97, tri3, by decide, .inl rfl, rfl, rfl⟩)) (lit3 dP2) (shp (triOk (putTri tri3 (.inl rfl) 0 2)))))) fun H12 e12 => ?_
  have h0 := dpUp (e11.trans e12) h0
  refine sRet (edB (evSame (edN (enCall (aCons (edV rfl h0) (aCons (cI 0) (aCons (cI 0) (aCons (edIs (edS ev_c) (by rw [isA])) aNil)))) ⟨2, gA, 0, 0, 97, triA, by decide, .inl rfl, rfl, rfl⟩)) (edIs (edV rfl h0) (by rw [← dP3])) (shp (triOk (putTri triA (.inl rfl) 0 0))))) fun v' H13 e13 hv' => q v' H13 (((((((e1.trans e14).trans e5).trans e6).trans e69).trans e10).trans (e11.trans e12)).trans e13) hv'
theorem ok__law_promises_right (T : Tx K mg) : FnOk P w K mg base CX0 7 T.a__law_promises_right T.d__law_promises_right [] (PrD K P__law_promises_right) := by
  have G_fulls : FnOk P w K mg base CX0 4 T.a_fulls T.d_fulls ["triangle"] (PrN K P_fulls) := ok_fulls T
  have G_around : FnOk P w K mg base CX0 4 T.a_around T.d_around ["triangle"] (PrD K P_around) := ok_around T
  have G_doors : FnOk P w K mg base CX0 4 T.a_doors T.d_doors ["triangle"] (PrN K P_doors) := ok_doors T
  have G_turn : FnOk P w K mg base CX0 5 T.a_turn T.d_turn ["triangle", "small"] (PrD K P_turn_of) := ok_turn T
  have G_Full___init__ : FnOk P w K mg base CX0 1 T.a_Full___init__ T.d_Full___init__ ["self", "row", "place", "up"] (SpIni3 T.C_Full) := ok_Full___init__ T
  have G_Full_shows : FnOk P w K mg base CX0 4 T.a_Full_shows T.d_Full_shows ["self", "triangle"] (SpFull K (kls T)) := ok_Full_shows T
  have G_Breaks___init__ : FnOk P w K mg base CX0 1 T.a_Breaks___init__ T.d_Breaks___init__ ["self", "row", "place"] (SpIni2 T.C_Breaks) := ok_Breaks___init__ T
  have G_Breaks_shows : FnOk P w K mg base CX0 3 T.a_Breaks_shows T.d_Breaks_shows ["self", "triangle"] (SpBreaks K (kls T)) := ok_Breaks_shows T
  have G__law_walks_promises : FnOk P w K mg base CX0 6 T.a__law_walks_promises T.d__law_walks_promises ["_law_two", "_law_three", "_law_back"] (PrD K P__law_walks_promises) := ok__law_walks_promises T
  refine T.F__law_promises_right.ok sc__law_promises_right (prdLen (n := 0) fun ds d h => by obtain ⟨rfl, _⟩ := h; rfl) (fun cdv A outer s H vs Q E hr h => ?_)
  obtain ⟨ds, d, hd, ⟨rfl, rfl⟩, q⟩ := h
  cases hd
  refine ⟨_, (pss_cons (ps_par3 (i := 0) (j := 1) (l := 2) rfl sc__law_promises_right.nd rfl rfl rfl (by decide) (by decide) (by decide) rfl rfl rfl (pa_cons (pe_lst (pa_cons pe_str (pa_cons pe_str pa_nil))) (pa_cons (pe_lst (pa_cons pe_str (pa_cons pe_str (pa_cons pe_str pa_nil)))) (pa_cons (pe_lst (pa_cons pe_str (pa_cons pe_str pa_nil))) pa_nil))) (by rfl))
    (pss_cons (ps_if (PW.pt (pw_or (pt_cmpR (r := rNeD K) (op_neD hr.units) (pe_call G_fulls (hr.mono (by decide)) (by rfl) T.g_fulls T.F_fulls.kp T.b_fulls .nil pass0 (pa_cons (pv 0) pa_nil)) (pe_lst (pa_cons (pe_tup (pa_cons pe_int (pa_cons pe_int (pa_cons pe_int pa_nil)))) pa_nil)) (nomark _)) (pw_or (pt_cmpR (r := rNeD K) (op_neD hr.units) (pe_call G_turn (hr.mono (by decide)) (by rfl) T.g_turn T.F_turn.kp T.b_turn .nil pass0 (pa_cons (pv 0) (pa_cons (pe_tup (pa_cons pe_int (pa_cons pe_int (pa_cons pe_int pa_nil)))) pa_nil))) pe_int (nomark _)) (pw_or (pt_cmpR (r := rNeD K) (op_neD hr.units) (pe_call G_around (hr.mono (by decide)) (by rfl) T.g_around T.F_around.kp T.b_around .nil pass0 (pa_cons (pv 0) pa_nil)) pe_int (nomark _)) (pw_or1 (pt_cmpR (r := rNeD K) (op_neD hr.units) (pe_call G_doors (hr.mono (by decide)) (by rfl) T.g_doors T.F_doors.kp T.b_doors .nil pass0 (pa_cons (pv 0) pa_nil)) (pe_lst (pa_cons pe_int pa_nil)) (nomark _))))))) (pss_one (ps_ret pe_bl)) pss_nil)
    (pss_cons (ps_if (PW.pt (pw_or (pt_cmpR (r := rNeD K) (op_neD hr.units) (pe_call G_turn (hr.mono (by decide)) (by rfl) T.g_turn T.F_turn.kp T.b_turn .nil pass0 (pa_cons (pv 2) (pa_cons (pe_tup (pa_cons pe_int (pa_cons pe_int (pa_cons pe_int pa_nil)))) pa_nil))) (pe_un un_neg pe_int) (nomark _)) (pw_or1 (pt_cmpR (r := rNeD K) (op_neD hr.units) (pe_call G_around (hr.mono (by decide)) (by rfl) T.g_around T.F_around.kp T.b_around .nil pass0 (pa_cons (pv 2) pa_nil)) (pe_un un_neg pe_int) (nomark _))))) (pss_one (ps_ret pe_bl)) pss_nil)
    (pss_cons (ps_if (PW.pt (pw_or (pt_cmpR (r := rNeD K) (op_neD hr.units) (pe_call G_fulls (hr.mono (by decide)) (by rfl) T.g_fulls T.F_fulls.kp T.b_fulls .nil pass0 (pa_cons (pv 1) pa_nil)) (pe_lst (pa_cons (pe_tup (pa_cons pe_int (pa_cons pe_int (pa_cons pe_int pa_nil)))) pa_nil)) (nomark _)) (pw_or (pt_cmpR (r := rNeD K) (op_neD hr.units) (pe_call G_turn (hr.mono (by decide)) (by rfl) T.g_turn T.F_turn.kp T.b_turn .nil pass0 (pa_cons (pv 1) (pa_cons (pe_tup (pa_cons pe_int (pa_cons pe_int (pa_cons pe_int pa_nil)))) pa_nil))) pe_int (nomark _)) (pw_or (pt_cmpR (r := rNeD K) (op_neD hr.units) (pe_call G_around (hr.mono (by decide)) (by rfl) T.g_around T.F_around.kp T.b_around .nil pass0 (pa_cons (pv 1) pa_nil)) pe_int (nomark _)) (pw_or1 (pt_cmpR (r := rNeD K) (op_neD hr.units) (pe_call G_doors (hr.mono (by decide)) (by rfl) T.g_doors T.F_doors.kp T.b_doors .nil pass0 (pa_cons (pv 1) pa_nil)) (pe_lst (pa_cons pe_int pa_nil)) (nomark _))))))) (pss_one (ps_ret pe_bl)) pss_nil)
    (pss_cons (ps_if (pt_cmpR (r := rNeD K) (op_neD hr.units) (pe_call G_turn (hr.mono (by decide)) (by rfl) T.g_turn T.F_turn.kp T.b_turn .nil pass0 (pa_cons (pv 1) (pa_cons (pe_tup (pa_cons pe_int (pa_cons pe_int (pa_cons pe_int pa_nil)))) pa_nil))) pe_int (nomark _)) (pss_one (ps_ret pe_bl)) pss_nil)
    (pss_cons (ps_if (PW.pt (pw_or (pt_cmpR (r := rNeD K) (op_neD hr.units) (pe_call G_fulls (hr.mono (by decide)) (by rfl) T.g_fulls T.F_fulls.kp T.b_fulls .nil pass0 (pa_cons (pe_lst (pa_cons pe_str (pa_cons pe_str pa_nil))) pa_nil)) (pe_lst pa_nil) (nomark _)) (pw_or (pt_cmpR (r := rNeD K) (op_neD hr.units) (pe_call G_around (hr.mono (by decide)) (by rfl) T.g_around T.F_around.kp T.b_around .nil pass0 (pa_cons (pe_lst (pa_cons pe_str (pa_cons pe_str pa_nil))) pa_nil)) pe_int (nomark _)) (pw_or1 (pt_cmpR (r := rNeD K) (op_neD hr.units) (pe_call G_doors (hr.mono (by decide)) (by rfl) T.g_doors T.F_doors.kp T.b_doors .nil pass0 (pa_cons (pe_lst (pa_cons pe_str (pa_cons pe_str pa_nil))) pa_nil)) (pe_lst pa_nil) (nomark _)))))) (pss_one (ps_ret pe_bl)) pss_nil)
    (pss_cons (ps_if (PW.pt (pw_or (pt_cmpR (r := rNeD K) (op_neD hr.units) (pe_call G_doors (hr.mono (by decide)) (by rfl) T.g_doors T.F_doors.kp T.b_doors .nil pass0 (pa_cons (pe_lst (pa_cons pe_str (pa_cons pe_str pa_nil))) pa_nil)) (pe_lst (pa_cons pe_int (pa_cons pe_int pa_nil))) (nomark _)) (pw_or1 (pt_cmpR (r := rNeD K) (op_neD hr.units) (pe_call G_doors (hr.mono (by decide)) (by rfl) T.g_doors T.F_doors.kp T.b_doors .nil pass0 (pa_cons (pe_lst (pa_cons pe_str (pa_cons pe_str pa_nil))) pa_nil)) (pe_lst (pa_cons pe_int (pa_cons pe_int pa_nil))) (nomark _))))) (pss_one (ps_ret pe_bl)) pss_nil)
    (pss_cons (ps_set (i := 3) sc__law_promises_right.nd rfl (.inl rfl) (pe_lst (pa_cons (pe_tup (pa_cons pe_int (pa_cons pe_int (pa_cons pe_int (pa_cons (pv 0) (pa_cons pe_bl pa_nil)))))) (pa_cons (pe_tup (pa_cons pe_int (pa_cons pe_int (pa_cons pe_int (pa_cons (pv 0) (pa_cons pe_bl pa_nil)))))) (pa_cons (pe_tup (pa_cons pe_int (pa_cons pe_int (pa_cons pe_int (pa_cons (pv 0) (pa_cons pe_bl pa_nil)))))) pa_nil)))))
    (pss_cons (ps_set (i := 3) sc__law_promises_right.nd rfl (.inl rfl) (pe_op op_cat (pv 3) (pe_lst (pa_cons (pe_tup (pa_cons pe_int (pa_cons pe_int (pa_cons pe_int (pa_cons (pv 0) (pa_cons pe_bl pa_nil)))))) (pa_cons (pe_tup (pa_cons (pe_un un_neg pe_int) (pa_cons pe_int (pa_cons pe_int (pa_cons (pv 0) (pa_cons pe_bl pa_nil)))))) (pa_cons (pe_tup (pa_cons pe_int (pa_cons pe_int (pa_cons pe_int (pa_cons (pv 1) (pa_cons pe_bl pa_nil)))))) pa_nil))))))
    (pss_cons (ps_set (i := 3) sc__law_promises_right.nd rfl (.inl rfl) (pe_op op_cat (pv 3) (pe_lst (pa_cons (pe_tup (pa_cons pe_int (pa_cons pe_int (pa_cons pe_int (pa_cons (pv 1) (pa_cons pe_bl pa_nil)))))) (pa_cons (pe_tup (pa_cons pe_int (pa_cons pe_int (pa_cons pe_int (pa_cons (pv 0) (pa_cons pe_bl pa_nil)))))) (pa_cons (pe_tup (pa_cons pe_int (pa_cons pe_int (pa_cons pe_int (pa_cons (pe_lst (pa_cons pe_str (pa_cons pe_str pa_nil))) (pa_cons pe_bl pa_nil)))))) pa_nil))))))
    (pss_cons (ps_set (i := 3) sc__law_promises_right.nd rfl (.inl rfl) (pe_op op_cat (pv 3) (pe_lst (pa_cons (pe_tup (pa_cons (pe_op op_pow pe_int pe_int) (pa_cons pe_int (pa_cons pe_int (pa_cons (pv 0) (pa_cons pe_bl pa_nil)))))) pa_nil))))
    (pss_cons (ps_for PassesOwn.never rfl (pi_list (pv 3)) (pg_tup rfl (pgs_cons (pg_name (i := 4) sc__law_promises_right.nd rfl (.inl rfl)) (pgs_cons (pg_name (i := 5) sc__law_promises_right.nd rfl (.inl rfl)) (pgs_cons (pg_name (i := 6) sc__law_promises_right.nd rfl (.inl rfl)) (pgs_cons (pg_name (i := 7) sc__law_promises_right.nd rfl (.inl rfl)) (pgs_cons (pg_name (i := 8) sc__law_promises_right.nd rfl (.inl rfl)) pgs_nil))))))
      (pss_one (ps_if (pt_cmpR (r := rNeD K) (op_neD hr.units) (pe_meth (pe_make T.mk_Full G_Full___init__ (hr.mono (by decide)) (by rfl) T.g_Full T.b_Full___init__ .nil pass0 (pa_cons (pv 4) (pa_cons (pv 5) (pa_cons (pv 6) pa_nil)))) T.o_Full.cl T.m_Full_shows G_Full_shows (hr.mono (by decide)) T.b_Full_shows .nil pass0 (pa_cons (pv 7) pa_nil)) (pv 8) (nomark _)) (pss_one (ps_ret pe_bl)) pss_nil)))
    (pss_cons (ps_set (i := 3) sc__law_promises_right.nd rfl (.inl rfl) (pe_lst (pa_cons (pe_tup (pa_cons pe_int (pa_cons pe_int (pa_cons (pv 2) (pa_cons pe_bl pa_nil))))) (pa_cons (pe_tup (pa_cons pe_int (pa_cons pe_int (pa_cons (pv 0) (pa_cons pe_bl pa_nil))))) (pa_cons (pe_tup (pa_cons pe_int (pa_cons pe_int (pa_cons (pe_lst (pa_cons pe_str (pa_cons pe_str pa_nil))) (pa_cons pe_bl pa_nil))))) pa_nil)))))
    (pss_cons (ps_set (i := 3) sc__law_promises_right.nd rfl (.inl rfl) (pe_op op_cat (pv 3) (pe_lst (pa_cons (pe_tup (pa_cons pe_int (pa_cons pe_int (pa_cons (pe_lst (pa_cons pe_str (pa_cons pe_str pa_nil))) (pa_cons pe_bl pa_nil))))) (pa_cons (pe_tup (pa_cons pe_int (pa_cons pe_int (pa_cons (pe_lst (pa_cons pe_str (pa_cons pe_str pa_nil))) (pa_cons pe_bl pa_nil))))) (pa_cons (pe_tup (pa_cons pe_int (pa_cons pe_int (pa_cons (pe_lst (pa_cons pe_str (pa_cons pe_str pa_nil))) (pa_cons pe_bl pa_nil))))) pa_nil))))))
    (pss_cons (ps_set (i := 3) sc__law_promises_right.nd rfl (.inl rfl) (pe_op op_cat (pv 3) (pe_lst (pa_cons (pe_tup (pa_cons pe_int (pa_cons pe_int (pa_cons (pv 0) (pa_cons pe_bl pa_nil))))) (pa_cons (pe_tup (pa_cons (pe_un un_neg pe_int) (pa_cons pe_int (pa_cons (pv 2) (pa_cons pe_bl pa_nil))))) (pa_cons (pe_tup (pa_cons pe_int (pa_cons pe_int (pa_cons (pv 2) (pa_cons pe_bl pa_nil))))) pa_nil))))))
    (pss_cons (ps_for PassesOwn.never rfl (pi_list (pv 3)) (pg_tup rfl (pgs_cons (pg_name (i := 4) sc__law_promises_right.nd rfl (.inl rfl)) (pgs_cons (pg_name (i := 5) sc__law_promises_right.nd rfl (.inl rfl)) (pgs_cons (pg_name (i := 7) sc__law_promises_right.nd rfl (.inl rfl)) (pgs_cons (pg_name (i := 8) sc__law_promises_right.nd rfl (.inl rfl)) pgs_nil)))))
      (pss_one (ps_if (pt_cmpR (r := rNeD K) (op_neD hr.units) (pe_meth (pe_make T.mk_Breaks G_Breaks___init__ (hr.mono (by decide)) (by rfl) T.g_Breaks T.b_Breaks___init__ .nil pass0 (pa_cons (pv 4) (pa_cons (pv 5) pa_nil))) T.o_Breaks.cl T.m_Breaks_shows G_Breaks_shows (hr.mono (by decide)) T.b_Breaks_shows .nil pass0 (pa_cons (pv 7) pa_nil)) (pv 8) (nomark _)) (pss_one (ps_ret pe_bl)) pss_nil)))
    (pss_one (ps_ret (pe_call G__law_walks_promises (hr.mono (by decide)) (by rfl) T.g__law_walks_promises T.F__law_walks_promises.kp T.b__law_walks_promises .nil pass0 (pa_cons (pv 0) (pa_cons (pv 1) (pa_cons (pv 2) pa_nil)))))))))))))))))))))), ?_⟩
  have n1 : ∀ {H : Hp} {σ : L2.St} {i : Nat} {x : Int}, σ[i]? = some (some (.int x)) → EvD K (tVar i) σ H (.int x) := fun h => edV h (.int _)
  have sh1 : SeqAt.shaped (.list ([(0, 0, 1)].map smD)) = true := shp (smsOk [(0, 0, 1)])
  have sh2 : SeqAt.shaped (.list ([(0, 0, 0)].map smD)) = true := shp (smsOk [(0, 0, 0)])
  refine qPar3 (K := K) (lit2 dA) (lit3 dT3) (lit2 dB) fun a b c H1 e1 ha hb hc => ?_
  refine qSkip (orFF (et_test (evDiff (d := .list ([(0, 0, 1)].map smD)) (edN (enIs (enCall (aCons (edV rfl ha) aNil) ⟨2, gA, triA, rfl, rfl⟩) (by rw [fA]))) (edN (enLst (aCons (litSm rfl rfl rfl) aNil) (Nat.le_of_ble_eq_true rfl))) sh1)) (orFF (etC (edIs (edNeI (K := K) (edCall (aCons (edV rfl ha) (aCons (litSm rfl rfl rfl) aNil)) ⟨2, gA, (0, 0, 1), triA, s001 (by decide), rfl, rfl⟩) (cI 1)) (by rw [nA]; rfl))) (orFF (etC (edIs (edNeI (K := K) (edCall (aCons (edV rfl ha) aNil) ⟨2, gA, triA, rfl, rfl⟩) (cI 1)) (by rw [aA]; rfl))) (et_test (evDiff (d := .list [.int 0]) (edN (enIs (enCall (aCons (edV rfl ha) aNil) ⟨2, gA, triA, rfl, rfl⟩) (by rw [rA]; rfl))) (edN (enLst (aCons (cI 0) aNil) (Nat.le_of_ble_eq_true rfl))) (by decide +kernel)))))) fun H2 e2 => ?_
  have hc2 := dpUp e2 hc
  refine qSkip (orFF (etC (edIs (edNeI (K := K) (edCall (aCons (edV rfl hc2) (aCons (litSm rfl rfl rfl) aNil)) ⟨2, gB, (0, 0, 1), triB, s001 (by decide), rfl, rfl⟩) neg1) (by rw [nB]; rfl))) (etC (edIs (edNeI (K := K) (edCall (aCons (edV rfl hc2) aNil) ⟨2, gB, triB, rfl, rfl⟩) neg1) (by rw [aB]; rfl)))) fun H3 e3 => ?_
  have hb3 := dpUp (e2.trans e3) hb
  refine qSkip (orFF (et_test (evDiff (d := .list ([(0, 0, 0)].map smD)) (edN (enIs (enCall (aCons (edV rfl hb3) aNil) ⟨3, g3, tri3, rfl, rfl⟩) (by rw [f3]))) (edN (enLst (aCons (litSm rfl rfl rfl) aNil) (Nat.le_of_ble_eq_true rfl))) sh2)) (orFF (etC (edIs (edNeI (K := K) (edCall (aCons (edV rfl hb3) (aCons (litSm rfl rfl rfl) aNil)) ⟨3, g3, (0, 0, 0), tri3, s000, rfl, rfl⟩) (cI 1)) (by rw [n30]; rfl))) (orFF (etC (edIs (edNeI (K := K) (edCall (aCons (edV rfl hb3) aNil) ⟨3, g3, tri3, rfl, rfl⟩) (cI 1)) (by rw [a3]; rfl))) (et_test (evDiff (d := .list [.int 0]) (edN (enIs (enCall (aCons (edV rfl hb3) aNil) ⟨3, g3, tri3, rfl, rfl⟩) (by rw [r3]; rfl))) (edN (enLst (aCons (cI 0) aNil) (Nat.le_of_ble_eq_true rfl))) (by decide +kernel)))))) fun H4 e4 => ?_
  refine qSkip (etC (edIs (edNeI (K := K) (edCall (aCons (edV rfl (dpUp e4 hb3)) (aCons (litSm rfl rfl rfl) aNil)) ⟨3, g3, (0, 0, 1), tri3, s001 (by decide), rfl, rfl⟩) (cI 0)) (by rw [n31]; rfl))) fun H5 e5 => ?_
  refine qSkip (orFF (et_test (evDiff (d := .list []) (edN (enIs (enCall (aCons (lit2 dF) aNil) ⟨2, gF, triF, rfl, rfl⟩) (by rw [fF]; rfl))) (edN (enLst aNil (by decide))) rfl)) (orFF (etC (edIs (edNeI (K := K) (edCall (aCons (lit2 dF) aNil) ⟨2, gF, triF, rfl, rfl⟩) (cI 0)) (by rw [aF]; rfl))) (et_test (evDiff (d := .list []) (edN (enIs (enCall (aCons (lit2 dF) aNil) ⟨2, gF, triF, rfl, rfl⟩) (by rw [rF]; rfl))) (edN (enLst aNil (by decide))) rfl)))) fun H6 e6 => ?_
  refine qSkip (orFF (et_test (evDiff (d := .list [.int 0, .int 1]) (edN (enIs (enCall (aCons (lit2 dE) aNil) ⟨2, gE, triE, rfl, rfl⟩) (by rw [rE]; rfl))) (edN (enLst (aCons (cI 0) (aCons (cI 1) aNil)) (Nat.le_of_ble_eq_true rfl))) (by decide +kernel))) (et_test (evDiff (d := .list [.int 1, .int 2]) (edN (enIs (enCall (aCons (lit2 dG) aNil) ⟨2, gG, triG, rfl, rfl⟩) (by rw [rG]; rfl))) (edN (enLst (aCons (cI 1) (aCons (cI 2) aNil)) (Nat.le_of_ble_eq_true rfl))) (by decide +kernel)))) fun H7 e7 => ?_
  have e17 := ((((e2.trans e3).trans e4).trans e5).trans e6).trans e7
  have ha := dpUp e17 ha
  have hb := dpUp e17 hb
  have hc := dpUp e17 hc
  refine qAsgN (enLst (aCons (ed5 (cI 0) (cI 0) (cI 1) (edV rfl ha)) (aCons (ed5 (cI 0) (cI 0) (cI 0) (edV rfl ha)) (aCons (ed5 (cI 0) (cI 1) (cI 1) (edV rfl ha)) aNil))) (Nat.le_of_ble_eq_true rfl)) fun p8 xs8 H8 hp8 e8 h8 d8 => ?_
  have ha8 := dpUp e8 ha
  have hb8 := dpUp e8 hb
  refine qCatX rfl h8 d8 (enLst (aCons (ed5 (cI 1) (cI 0) (cI 1) (edV rfl ha8)) (aCons (ed5 neg1 (cI 0) (cI 1) (edV rfl ha8)) (aCons (ed5 (cI 0) (cI 0) (cI 0) (edV rfl hb8)) aNil))) (Nat.le_of_ble_eq_true rfl)) (Nat.le_of_ble_eq_true rfl) fun l9 ys9 Hb9 H9 eb9 nb9 e9 h9 d9 => ?_
  have e89 := eb9.trans e9
  have ha9 := dpUp e89 ha8
  have hb9 := dpUp e89 hb8
  refine qCatX rfl h9 (dpsUp e9 d9) (enLst (aCons (ed5 (cI 0) (cI 0) (cI 1) (edV rfl hb9)) (aCons (ed5 (cI 0) (cI 0) (cI 2) (edV rfl ha9)) (aCons (ed5 (cI 0) (cI 0) (cI 1) (lit2 dF)) aNil))) (Nat.le_of_ble_eq_true rfl)) (Nat.le_of_ble_eq_true rfl) fun l10 ys10 Hb10 H10 eb10 nb10 e10 h10 d10 => ?_
  have e910 := eb10.trans e10
  have ha10 := dpUp e910 ha9
  refine qCatX rfl h10 (dpsUp e10 d10) (enLst (aCons (ed5 (edI2c (cI 10) (cI 30) ⟨by decide, by decide, by decide⟩ rfl) (cI 0) (cI 1) (edV rfl ha10)) aNil) (Nat.le_of_ble_eq_true rfl)) (Nat.le_of_ble_eq_true rfl) fun l11 ys11 Hb11 H11 eb11 nb11 e11 h11 d11 => ?_
  have hL5 : Dp K H11 (.ref l11) (.list (L5.map enc5)) := dpOfL h11 (dpsUp e11 d11)
  have e811 := (e89.trans e910).trans (eb11.trans e11)
  refine qFor L5 enc5 (idL (edV rfl hL5)) (fun _ σ' => ∃ y4 y5 y6 y7 y8, σ' = [some a, some b, some c, some (.ref l11), y4, y5, y6, y7, y8]) ⟨_, _, _, _, _, rfl⟩ ?_ ?_
  · rintro H12 e12 i cc hi σ1 H13 x ⟨y4, y5, y6, y7, y8, rfl⟩ e13 hx
    obtain ⟨tri, hdue⟩ := L5ok cc (List.mem_of_getElem? hi)
    obtain ⟨x1, x2, x3, x4, x5⟩ := cc
    obtain ⟨v4, v5, v6, v7, v8, k4, k5, k6, k7, k8, hg⟩ := tgTup5 (i := 4) (j := 5) (k := 6) (l := 7) (m := 8) (σ1 := [some a, some b, some c, some (.ref l11), y4, y5, y6, y7, y8]) hx
    refine hg _ ?_
    exact sSkip (etC (edIs (edNeB (edFullShowsA (c := kls T) tri (eaFull (c := kls T) (aCons (edV rfl k4) (aCons (edV rfl k5) (aCons (edV rfl k6) aNil)))) (aCons (edV rfl k7) aNil)) (edV rfl k8)) (by rw [hdue, decide_eq_true rfl]; rfl))) fun H14 e14 => ⟨⟨_, _, _, _, _, rfl⟩, e13.trans e14⟩
  rintro σ1 H12 ⟨y4, y5, y6, y7, y8, rfl⟩ e12
  have ha := dpUp (e8.trans (e811.trans e12)) ha
  have hb := dpUp (e8.trans (e811.trans e12)) hb
  have hc := dpUp (e8.trans (e811.trans e12)) hc
  refine qAsgN (enLst (aCons (ed4 (cI 0) (cI 0) (edV rfl hc)) (aCons (ed4 (cI 0) (cI 0) (edV rfl ha)) (aCons (ed4 (cI 1) (cI 0) (lit2 dE)) aNil))) (Nat.le_of_ble_eq_true rfl)) fun p13 xs13 H13 hp13 e13 h13 d13 => ?_
  refine qCatX rfl h13 d13 (enLst (aCons (ed4 (cI 0) (cI 1) (lit2 dE)) (aCons (ed4 (cI 0) (cI 1) (lit2 dH)) (aCons (ed4 (cI 1) (cI 0) (lit2 dI)) aNil))) (Nat.le_of_ble_eq_true rfl)) (Nat.le_of_ble_eq_true rfl) fun l14 ys14 Hb14 H14 eb14 nb14 e14 h14 d14 => ?_
  have e134 := e13.trans (eb14.trans e14)
  have ha14 := dpUp e134 ha
  have hc14 := dpUp e134 hc
  refine qCatX rfl h14 (dpsUp e14 d14) (enLst (aCons (ed4 (cI 2) (cI 0) (edV rfl ha14)) (aCons (ed4 neg1 (cI 0) (edV rfl hc14)) (aCons (ed4 (cI 0) (cI 5) (edV rfl hc14)) aNil))) (Nat.le_of_ble_eq_true rfl)) (Nat.le_of_ble_eq_true rfl) fun l15 ys15 Hb15 H15 eb15 nb15 e15 h15 d15 => ?_
  have hL4 : Dp K H15 (.ref l15) (.list (L4.map enc4)) := dpOfL h15 (dpsUp e15 d15)
  have e135 := e134.trans (eb15.trans e15)
  refine qFor L4 enc4 (idL (edV rfl hL4)) (fun _ σ' => ∃ y4 y5 y6 y7 y8, σ' = [some a, some b, some c, some (.ref l15), y4, y5, y6, y7, y8]) ⟨_, _, _, _, _, rfl⟩ ?_ ?_
  · rintro H16 e16 i cc hi σ1 H17 x ⟨y4, y5, y6, y7, y8, rfl⟩ e17' hx
    obtain ⟨tri, hdue⟩ := L4ok cc (List.mem_of_getElem? hi)
    obtain ⟨x1, x2, x3, x4⟩ := cc
    obtain ⟨v4, v5, v7, v8, k4, k5, k7, k8, hg⟩ := tgTup4 (i := 4) (j := 5) (k := 7) (l := 8) (σ1 := [some a, some b, some c, some (.ref l15), y4, y5, y6, y7, y8]) hx
    refine hg _ ?_
    exact sSkip (etC (edIs (edNeB (edBreaksShowsA (c := kls T) tri (eaBreaks (c := kls T) (aCons (edV rfl k4) (aCons (edV rfl k5) aNil))) (aCons (edV rfl k7) aNil)) (edV rfl k8)) (by rw [hdue, decide_eq_true rfl]; rfl))) fun H18 e18 => ⟨⟨_, _, _, _, _, rfl⟩, e17'.trans e18⟩
  rintro σ2 H16 ⟨y4', y5', y6', y7', y8', rfl⟩ e16
  have e1316 := e135.trans e16
  exact sRet (edCall (aCons (edV rfl (dpUp e1316 ha)) (aCons (edV rfl (dpUp e1316 hb)) (aCons (edV rfl (dpUp e1316 hc)) aNil))) ⟨rfl, rfl⟩) fun v' H17 e17' hv' => q v' H17 (((((e1.trans e17).trans e8).trans (e811.trans e12)).trans e1316).trans e17') hv'

end
end Dt

namespace Dt
open PySem L2 Evl PyProof.Rows
section
variable {P : Program} {w : World} {K : PySem.W.Frag} {mg : Str → Option Value} {base : Heap}
/-! the law -/
theorem ok_law (T : Tx K mg) : FnOk P w K mg base CX0 8 T.a_law T.d_law ["_law_script"] (SpLaw K) := by
  have G__law_number : FnOk P w K mg base CX0 1 T.a__law_number T.d__law_number ["_law_cell", "_law_at", "_law_whole"] (PrD K P__law_number) := ok__law_number T
  have G__law_triangle_right : FnOk P w K mg base CX0 6 T.a__law_triangle_right T.d__law_triangle_right ["_law_triangle"] (PrD K P__law_triangle_right) := ok__law_triangle_right T
  have G__law_promises_right : FnOk P w K mg base CX0 7 T.a__law_promises_right T.d__law_promises_right [] (PrD K P__law_promises_right) := ok__law_promises_right T
  refine T.F_law.ok sc_law (fun vs H Q E h => by obtain ⟨a, ns, rfl, _⟩ := h; rfl) (fun cdv A outer s H vs Q E hr h => ?_)
  obtain ⟨a, ns, rfl, hS, hns, q⟩ := h
  refine ⟨_, (pss_cons (ps_if (pt_not (pt_val (pe_call0 G__law_promises_right (hr.mono (by decide)) (by rfl) T.g__law_promises_right T.F__law_promises_right.kp T.b__law_promises_right .nil pass0))) (pss_one (ps_ret pe_bl)) pss_nil)
    (pss_cons (ps_set (i := 1) sc_law.nd rfl (.inr rfl) (pe_callB (r := rAbs) call_absR (by rfl) T.z_abs boot_abs (pa_cons (pe_callB (r := rSum K) (cr_sum rfl) (by rfl) T.z_sum boot_sum (pa_cons (pe_slice (r := rSlL K) sl_list (pv 0) po_none (po_some pe_int)) pa_nil)) pa_nil)))
    (pss_cons (ps_par (i := 2) (j := 3) rfl sc_law.nd rfl rfl (by decide) rfl rfl (pa_cons (pe_op op_add pe_int (pe_op op_mod (pv 1) pe_int)) (pa_cons (pe_lst pa_nil) pa_nil)) (by rfl))
    (pss_cons (ps_for PassesOwn.never rfl (pi_range1 (by rfl) T.z_range (pa_cons (pv 2) pa_nil)) (pg_name (i := 4) sc_law.nd rfl (.inr rfl))
      (pss_one (ps_expr (pe_bm PySem.F.plainAttrs_list PySem.F.slot_list_append PySem.F.type_list_append mt_append (pv 3) (pa_cons (pe_joinR pe_str (pe_lc (own := [("_law_at", 6)]) (g := gName 6) (tt := tYes) rfl sc_law.nd (pi_range1 (by rfl) T.z_range (pa_cons (pe_op op_sub (pv 2) (pv 4)) pa_nil)) (blkOk_by (N := ["_law_script", "_law_whole", "_law_many", "_law_drawn", "_law_row", "_law_triangle", "_law_at"]) (sc := defScope s_law) (by decide +kernel)) (fun _ _ _ _ _ => (pg_name (i := 6) sc_law.nd rfl (.inl rfl))) (fun _ _ _ _ _ => pts_nil) (fun _ _ _ _ _ => (pe_ix (r := rIxS) ix_str pe_str (pe_op op_mod (pe_op op_fdiv (pe_callB (r := rAbs) call_absR (by rfl) T.z_abs boot_abs (pa_cons (pe_call G__law_number (hr.mono (by decide)) (by rfl) T.g__law_number T.F__law_number.kp T.b__law_number .nil pass0 (pa_cons (pv 1) (pa_cons (pe_op op_add (pv 6) (pe_op op_mul pe_int (pv 4))) (pa_cons pe_int pa_nil)))) pa_nil)) pe_int) pe_int) (fun _ _ => rfl))))) pa_nil)))))
    (pss_cons (ps_for PassesOwn.never rfl (pi_list (pe_lst (pa_cons (pv 3) (pa_cons (pe_lst (pa_cons pe_str (pa_cons pe_str pa_nil))) (pa_cons (pe_lst (pa_cons pe_str (pa_cons pe_str pa_nil))) (pa_cons (pe_lst (pa_cons pe_str (pa_cons pe_str (pa_cons pe_str pa_nil)))) (pa_cons (pe_lst (pa_cons pe_str (pa_cons pe_str pa_nil))) pa_nil))))))) (pg_name (i := 5) sc_law.nd rfl (.inl rfl))
      (pss_one (ps_if (pt_not (pt_val (pe_call G__law_triangle_right (hr.mono (by decide)) (by rfl) T.g__law_triangle_right T.F__law_triangle_right.kp T.b__law_triangle_right .nil pass0 (pa_cons (pv 5) pa_nil)))) (pss_one (ps_ret pe_bl)) pss_nil)))
    (pss_one (ps_ret pe_bl))))))), ?_⟩
  have n1 : ∀ {H : Hp} {σ : L2.St} {i : Nat} {x : Int}, σ[i]? = some (some (.int x)) → EvD K (tVar i) σ H (.int x) := fun h => edV h (.int _)
  have hsc : Dp K H (.ref a) (.list (ns.map .int)) := .lst hS (dpsInts ns)
  refine qSkip (notT (etV (edCall aNil ⟨rfl, rfl⟩))) fun H1 e1 => ?_
  refine qAsg (edAbs (edSum (ns := ns.take 63) (edN (enIs (enCut (edV rfl (dpUp e1 hsc)) eo_none (eo_some (i := ((63 : Nat) : Int)) ev_c)) (by rw [cutTo, List.map_take]))))) fun v1 H2 e2 hv1 => ?_
  have hv1 := dpInt hv1
  subst hv1
  have w0 : 0 ≤ (if (ns.take 63).sum < 0 then -(ns.take 63).sum else (ns.take 63).sum) := by split <;> omega
  generalize (if (ns.take 63).sum < 0 then -(ns.take 63).sum else (ns.take 63).sum) = W at w0
  have m0 : 0 ≤ W % 4 := Int.emod_nonneg _ (by decide)
  have m4 : W % 4 < 4 := Int.emod_lt_of_pos _ (by decide)
  refine qParDN (edI2 (cI 2) (edI2c (n1 rfl) (cI 4) (by decide) rfl) rfl) (enLst aNil (by decide)) fun v2 p3 xs3 Hb H3 eb nb e3 hv2 h3 dd3 => ?_
  have hv2 := dpInt hv2
  subst hv2
  obtain ⟨m, hm⟩ : ∃ m : Nat, 2 + W % 4 = (m : Int) := ⟨(2 + W % 4).toNat, by omega⟩
  rw [hm]
  have m2 : 2 ≤ m := by omega
  have m5 : m ≤ 5 := by omega
  have gr0 : Grow K Hb p3 (([] : List (List Nat)).map fun l => .str (sOf l)) H3 := growNew nb e3 h3 dd3 rfl
  refine q_forR1 (evA1 (aCons (n1 rfl) aNil)) (by omega) (fun i σ' H' => ∃ (ls : List (List Nat)) (y4 y5 y6 : Option V), σ' = [some (.ref a), some (.int W), some (.int (m : Nat)), some (.ref p3), y4, y5, y6] ∧ ls.length = i ∧ Rws m ls ∧ Grow K Hb p3 (ls.map fun l => .str (sOf l)) H') (fun H4 e4 => ⟨[], _, _, _, rfl, rfl, (fun j l h => by simp at h), gr0.up e4⟩) ?_ ?_
  · rintro i σ' H4 hi ⟨ls, y4, y5, y6, rfl, hls, hrw, gr⟩
    have hi : i < m := by omega
    have ix : ∀ at' : Nat, ∃ c, Code c ∧ atI ("abc" : Str).cps.toList ((if numOf W ((at' : Int) + 9 * (i : Int)) 7 < 0 then -numOf W ((at' : Int) + 9 * (i : Int)) 7 else numOf W ((at' : Int) + 9 * (i : Int)) 7) / 3 % 3) = some c := fun at' => abcAt (Int.emod_nonneg _ (by decide)) (Int.emod_lt_of_pos _ (by decide))
    obtain ⟨f, hf⟩ : ∃ f : Nat → Nat, ∀ at', Code (f at') ∧ atI ("abc" : Str).cps.toList ((if numOf W ((at' : Int) + 9 * (i : Int)) 7 < 0 then -numOf W ((at' : Int) + 9 * (i : Int)) 7 else numOf W ((at' : Int) + 9 * (i : Int)) 7) / 3 % 3) = some (f at') := ⟨fun at' => Classical.choose (ix at'), fun at' => Classical.choose_spec (ix at')⟩
    have rlen : ((List.range (m - i)).map f).length = m - i := by rw [List.length_map, List.length_range]
    have tn : ((m : Int) - (i : Int)).toNat = m - i := by omega
    have walk1 : ∀ {H : Hp} {σ : L2.St}, σ[2]? = some (some (.int (m : Nat))) → σ[4]? = some (some (.int (i : Nat))) → IdD K (iRng1 (tCons (tOp (rI0 fun i j => .int (i - j)) (tVar 2) (tVar 4)) tNil)) σ H ((List.range (m - i)).map fun i => .int (i : Nat)) := fun {H σ} h2 h4 => by
      have z := idR1 (n := (m : Int) - (i : Int)) (H := H) (σ := σ) (aCons (edI2 (K := K) (g := fun i j => .int (i - j)) (n1 h2) (n1 h4) rfl) aNil) (by omega) (by omega)
      rw [tn] at z
      exact z
    refine sApp (d := .str (sOf ((List.range (m - i)).map f))) gr rfl (edIs (edJoin (a := "") (ys := ((List.range (m - i)).map f).map fun c => (⟨#[c]⟩ : Str)) (edS ev_c) (edN (enIs (enLcA (List.range (m - i)) (fun i => .int (i : Nat)) (fun at' => .str ⟨#[f at']⟩) (walk1 rfl rfl) (by rw [List.length_range]; omega) (fun _ _ => by rw [noL]) fun at' hat H5 x e5 hx => ?_) (by rw [List.map_map, List.map_map]; rfl))) (by
        rw [signsSum, rlen, List.length_map, rlen]
        show m - i + (m - i) * 0 ≤ 16777216
        omega)) (by rw [joinSigns])) (by rw [noL]) (by rw [List.length_map]; omega) fun H5 gr5 => ⟨ls ++ [(List.range (m - i)).map f], _, _, _, rfl, by rw [List.length_append, hls]; rfl, ?_, ?_⟩
    · have hx := dpInt hx
      subst hx
      rw [List.mem_range] at hat
      exact ⟨_, tgName, rfl, edIxS (edS ev_c) (edI2c (edI2c (edAbs (edCall (aCons (n1 rfl) (aCons (edI2 (n1 rfl) (edI2c (cI 9) (n1 rfl) (.inl ⟨by decide, by decide⟩) rfl) rfl) (aCons (cI 7) aNil))) ⟨W, (at' : Int) + 9 * (i : Int), 7, w0, by omega, by omega, rfl, rfl, rfl⟩)) (cI 3) ⟨by decide, by decide⟩ rfl) (cI 3) (by decide) rfl) (by decide +kernel) (hf at').2⟩
    · intro j l hj
      by_cases hjl : j < ls.length
      · rw [List.getElem?_append_left hjl] at hj
        exact hrw j l hj
      · rw [List.getElem?_append_right (by omega)] at hj
        have hj0 : j - ls.length = 0 := by
          have := (List.getElem?_eq_some_iff.mp hj).1
          simp at this
          omega
        rw [hj0] at hj
        cases hj
        have hji : j = i := by omega
        rw [hji]
        refine ⟨rlen, fun c hc => ?_⟩
        obtain ⟨z, _, rfl⟩ := List.mem_map.mp hc
        exact (hf z).1
    · rw [List.map_append]
      exact gr5
  · rintro σ' H4 ⟨ls, y4, y5, y6, rfl, hls, hrw, gr⟩
    have hls : ls.length = m := by rw [hls]; omega
    have tri : Tri m (gOf' ls) := ⟨m2, by omega, gOfOk ls⟩
    have hD := gr.dp
    rw [gOfRow hls hrw] at hD
    have tri4 : Tri 3 (gOf' [[97, 98, 98], [99, 98], [99]]) := ⟨by decide, by decide, gOfOk _⟩
    refine qFor [(m, gOf' ls), (2, gA), (2, gF), (3, gOf' [[97, 98, 98], [99, 98], [99]]), (2, gB)] (fun w => .list (triD w.1 w.2)) (idL (edN (enIs (enLst (aCons (edV rfl hD) (aCons (lit2 dA) (aCons (lit2 dF) (aCons (lit3 (d3 (by decide +kernel))) (aCons (lit2 dB) aNil))))) (Nat.le_of_ble_eq_true rfl)) rfl))) (fun _ σ' => ∃ y4 y5 y6, σ' = [some (.ref a), some (.int W), some (.int (m : Nat)), some (.ref p3), y4, y5, y6]) ⟨_, _, _, rfl⟩ ?_ ?_
    · rintro H5 e5 j ⟨nn, gg⟩ hj σ1 H6 x ⟨y4, y5, y6, rfl⟩ e6 hx
      refine tgName _ ?_
      have hT : Tri nn gg ∧ nn ≤ 30 := by
        have hmem := List.mem_of_getElem? hj
        simp only [List.mem_cons, List.not_mem_nil, or_false, Prod.mk.injEq] at hmem
        rcases hmem with ⟨rfl, rfl⟩ | ⟨rfl, rfl⟩ | ⟨rfl, rfl⟩ | ⟨rfl, rfl⟩ | ⟨rfl, rfl⟩
        · exact ⟨tri, by omega⟩
        · exact ⟨triA, by decide⟩
        · exact ⟨triF, by decide⟩
        · exact ⟨tri4, by decide⟩
        · exact ⟨triB, by decide⟩
      exact sSkip (notT (etV (edCall (aCons (edV rfl hx) aNil) ⟨nn, gg, hT.1, hT.2, rfl, rfl⟩))) fun H7 e7 => ⟨⟨_, _, _, rfl⟩, e6.trans e7⟩
    · rintro σ1 H5 ⟨y4, y5, y6, rfl⟩ e5
      refine sRet (K := K) (d := .bool true) (edB ev_c) fun v' H6 e6 hv' => ?_
      rw [dpBl hv']
      exact q H6

end
end Dt

namespace Dt
open PySem L2 Evl
theorem all_mk {l : PySem.W.OpenLaw} {w : World} {K : PySem.W.Frag} {h : Heap} {mg : Str → Option Value} {fa : Addr} (X : K.In h) (G : h.Ns mainGlobals mg) (hfa : mg "law" = some (.ref fa))
    {f_is_number : Addr} {od_is_number an_is_number : Option Addr} {sl_is_number : Array (Option Value)} {oc_is_number kV_is_number dc_is_number pm_is_number cd_is_number ct_is_number : Value}
    {f_is_letter : Addr} {od_is_letter an_is_letter : Option Addr} {sl_is_letter : Array (Option Value)} {oc_is_letter kV_is_letter dc_is_letter pm_is_letter cd_is_letter ct_is_letter : Value}
    {f_is_row : Addr} {od_is_row an_is_row : Option Addr} {sl_is_row : Array (Option Value)} {oc_is_row kV_is_row dc_is_row pm_is_row cd_is_row ct_is_row : Value}
    {f_is_triangle : Addr} {od_is_triangle an_is_triangle : Option Addr} {sl_is_triangle : Array (Option Value)} {oc_is_triangle kV_is_triangle dc_is_triangle pm_is_triangle cd_is_triangle ct_is_triangle : Value}
    {f_is_spot : Addr} {od_is_spot an_is_spot : Option Addr} {sl_is_spot : Array (Option Value)} {oc_is_spot kV_is_spot dc_is_spot pm_is_spot cd_is_spot ct_is_spot : Value}
    {f_is_small : Addr} {od_is_small an_is_small : Option Addr} {sl_is_small : Array (Option Value)} {oc_is_small kV_is_small dc_is_small pm_is_small cd_is_small ct_is_small : Value}
    {f_check_triangle : Addr} {od_check_triangle an_check_triangle : Option Addr} {sl_check_triangle : Array (Option Value)} {oc_check_triangle kV_check_triangle dc_check_triangle pm_check_triangle cd_check_triangle ct_check_triangle : Value}
    {f_check_small : Addr} {od_check_small an_check_small : Option Addr} {sl_check_small : Array (Option Value)} {oc_check_small kV_check_small dc_check_small pm_check_small cd_check_small ct_check_small : Value}
    {f_corners : Addr} {od_corners an_corners : Option Addr} {sl_corners : Array (Option Value)} {oc_corners kV_corners dc_corners pm_corners cd_corners ct_corners : Value}
    {f_all_smalls : Addr} {od_all_smalls an_all_smalls : Option Addr} {sl_all_smalls : Array (Option Value)} {oc_all_smalls kV_all_smalls dc_all_smalls pm_all_smalls cd_all_smalls ct_all_smalls : Value}
    {f_letters_at : Addr} {od_letters_at an_letters_at : Option Addr} {sl_letters_at : Array (Option Value)} {oc_letters_at kV_letters_at dc_letters_at pm_letters_at cd_letters_at ct_letters_at : Value}
    {f_turn_of : Addr} {od_turn_of an_turn_of : Option Addr} {sl_turn_of : Array (Option Value)} {oc_turn_of kV_turn_of dc_turn_of pm_turn_of cd_turn_of ct_turn_of : Value}
    {f_side_spots : Addr} {od_side_spots an_side_spots : Option Addr} {sl_side_spots : Array (Option Value)} {oc_side_spots kV_side_spots dc_side_spots pm_side_spots cd_side_spots ct_side_spots : Value}
    {f_side_steps : Addr} {od_side_steps an_side_steps : Option Addr} {sl_side_steps : Array (Option Value)} {oc_side_steps kV_side_steps dc_side_steps pm_side_steps cd_side_steps ct_side_steps : Value}
    {f_is_door : Addr} {od_is_door an_is_door : Option Addr} {sl_is_door : Array (Option Value)} {oc_is_door kV_is_door dc_is_door pm_is_door cd_is_door ct_is_door : Value}
    {f_breaks_rule : Addr} {od_breaks_rule an_breaks_rule : Option Addr} {sl_breaks_rule : Array (Option Value)} {oc_breaks_rule kV_breaks_rule dc_breaks_rule pm_breaks_rule cd_breaks_rule ct_breaks_rule : Value}
    {f_fulls : Addr} {od_fulls an_fulls : Option Addr} {sl_fulls : Array (Option Value)} {oc_fulls kV_fulls dc_fulls pm_fulls cd_fulls ct_fulls : Value}
    {f_around : Addr} {od_around an_around : Option Addr} {sl_around : Array (Option Value)} {oc_around kV_around dc_around pm_around cd_around ct_around : Value}
    {f_doors : Addr} {od_doors an_doors : Option Addr} {sl_doors : Array (Option Value)} {oc_doors kV_doors dc_doors pm_doors cd_doors ct_doors : Value}
    {f_turn : Addr} {od_turn an_turn : Option Addr} {sl_turn : Array (Option Value)} {oc_turn kV_turn dc_turn pm_turn cd_turn ct_turn : Value}
    {f_put : Addr} {od_put an_put : Option Addr} {sl_put : Array (Option Value)} {oc_put kV_put dc_put pm_put cd_put ct_put : Value}
    {f_Full___init__ : Addr} {od_Full___init__ an_Full___init__ : Option Addr} {sl_Full___init__ : Array (Option Value)} {oc_Full___init__ kV_Full___init__ dc_Full___init__ pm_Full___init__ cd_Full___init__ ct_Full___init__ : Value}
    {f_Full_shows : Addr} {od_Full_shows an_Full_shows : Option Addr} {sl_Full_shows : Array (Option Value)} {oc_Full_shows kV_Full_shows dc_Full_shows pm_Full_shows cd_Full_shows ct_Full_shows : Value}
    {f_Breaks___init__ : Addr} {od_Breaks___init__ an_Breaks___init__ : Option Addr} {sl_Breaks___init__ : Array (Option Value)} {oc_Breaks___init__ kV_Breaks___init__ dc_Breaks___init__ pm_Breaks___init__ cd_Breaks___init__ ct_Breaks___init__ : Value}
    {f_Breaks_shows : Addr} {od_Breaks_shows an_Breaks_shows : Option Addr} {sl_Breaks_shows : Array (Option Value)} {oc_Breaks_shows kV_Breaks_shows dc_Breaks_shows pm_Breaks_shows cd_Breaks_shows ct_Breaks_shows : Value}
    {f_Ended___init__ : Addr} {od_Ended___init__ an_Ended___init__ : Option Addr} {sl_Ended___init__ : Array (Option Value)} {oc_Ended___init__ kV_Ended___init__ dc_Ended___init__ pm_Ended___init__ cd_Ended___init__ ct_Ended___init__ : Value}
    {f_Out___init__ : Addr} {od_Out___init__ an_Out___init__ : Option Addr} {sl_Out___init__ : Array (Option Value)} {oc_Out___init__ kV_Out___init__ dc_Out___init__ pm_Out___init__ cd_Out___init__ ct_Out___init__ : Value}
    {f_left_of : Addr} {od_left_of an_left_of : Option Addr} {sl_left_of : Array (Option Value)} {oc_left_of kV_left_of dc_left_of pm_left_of cd_left_of ct_left_of : Value}
    {f_way_on : Addr} {od_way_on an_way_on : Option Addr} {sl_way_on : Array (Option Value)} {oc_way_on kV_way_on dc_way_on pm_way_on cd_way_on ct_way_on : Value}
    {f_walk_on : Addr} {od_walk_on an_walk_on : Option Addr} {sl_walk_on : Array (Option Value)} {oc_walk_on kV_walk_on dc_walk_on pm_walk_on cd_walk_on ct_walk_on : Value}
    {f_told : Addr} {od_told an_told : Option Addr} {sl_told : Array (Option Value)} {oc_told kV_told dc_told pm_told cd_told ct_told : Value}
    {f_walk : Addr} {od_walk an_walk : Option Addr} {sl_walk : Array (Option Value)} {oc_walk kV_walk dc_walk pm_walk cd_walk ct_walk : Value}
    {f_walk_out : Addr} {od_walk_out an_walk_out : Option Addr} {sl_walk_out : Array (Option Value)} {oc_walk_out kV_walk_out dc_walk_out pm_walk_out cd_walk_out ct_walk_out : Value}
    {f__law_number : Addr} {od__law_number an__law_number : Option Addr} {sl__law_number : Array (Option Value)} {oc__law_number kV__law_number dc__law_number pm__law_number cd__law_number ct__law_number : Value}
    {f__law_plain : Addr} {od__law_plain an__law_plain : Option Addr} {sl__law_plain : Array (Option Value)} {oc__law_plain kV__law_plain dc__law_plain pm__law_plain cd__law_plain ct__law_plain : Value}
    {f__law_truths : Addr} {od__law_truths an__law_truths : Option Addr} {sl__law_truths : Array (Option Value)} {oc__law_truths kV__law_truths dc__law_truths pm__law_truths cd__law_truths ct__law_truths : Value}
    {f__law_triangle_right : Addr} {od__law_triangle_right an__law_triangle_right : Option Addr} {sl__law_triangle_right : Array (Option Value)} {oc__law_triangle_right kV__law_triangle_right dc__law_triangle_right pm__law_triangle_right cd__law_triangle_right ct__law_triangle_right : Value}
    {f__law_promises_right : Addr} {od__law_promises_right an__law_promises_right : Option Addr} {sl__law_promises_right : Array (Option Value)} {oc__law_promises_right kV__law_promises_right dc__law_promises_right pm__law_promises_right cd__law_promises_right ct__law_promises_right : Value}
    {f__law_walks_promises : Addr} {od__law_walks_promises an__law_walks_promises : Option Addr} {sl__law_walks_promises : Array (Option Value)} {oc__law_walks_promises kV__law_walks_promises dc__law_walks_promises pm__law_walks_promises cd__law_walks_promises ct__law_walks_promises : Value}
    {f_law : Addr} {od_law an_law : Option Addr} {sl_law : Array (Option Value)} {oc_law kV_law dc_law pm_law cd_law ct_law : Value}
    {cc_Full : Addr}
    {cc_Breaks : Addr}
    {cc_Ended : Addr}
    {cc_Out : Addr}
    {c_DOOR_STEPS : Addr} {t0_DOOR_STEPS t1_DOOR_STEPS : Tok} {n_DOOR_STEPS : Nat} {od_DOOR_STEPS : Option Addr} {sl_DOOR_STEPS : Array (Option Value)}
    {c_LEFT_ROUNDS : Addr} {t0_LEFT_ROUNDS t1_LEFT_ROUNDS t2_LEFT_ROUNDS : Tok} {n_LEFT_ROUNDS : Nat} {od_LEFT_ROUNDS : Option Addr} {sl_LEFT_ROUNDS : Array (Option Value)}
    {c_LETTERS : Addr} {t0_LETTERS t1_LETTERS t2_LETTERS : Tok} {n_LETTERS : Nat} {od_LETTERS : Option Addr} {sl_LETTERS : Array (Option Value)}
    {c_RIGHT_ROUNDS : Addr} {t0_RIGHT_ROUNDS t1_RIGHT_ROUNDS t2_RIGHT_ROUNDS : Tok} {n_RIGHT_ROUNDS : Nat} {od_RIGHT_ROUNDS : Option Addr} {sl_RIGHT_ROUNDS : Array (Option Value)}
    (a_Full : PySem.W.nsIn K mainGlobals "Full" = some (some (.ref cc_Full)))
    (pg_Full : PySem.W.plainGet K cc_Full Str.empty = true)
    (hd_Full : PySem.W.hasDictIn K cc_Full = true)
    (po_Full : PySem.W.plainOver K cc_Full = true)
    (sa_Full : PySem.W.findIn K (.ref cc_Full) "__setattr__" = some (some (.builtin "object.__setattr__")))
    (ha_Full : PySem.W.findIn K (.ref cc_Full) "__class__" = some (some (.builtin "object.__class__")))
    (hm_Full : PySem.W.mroIn K cc_Full (.type "object") = some true)
    (ms_Full : PySem.W.makesIn K cc_Full = true)
    (in_Full : PySem.W.findIn K (.ref cc_Full) "__init__" = some (some (.ref f_Full___init__)))
    (fn_Full : PySem.W.isFn K (.ref f_Full___init__) = true)
    (kc_Full : PySem.W.keepIn K (.ref cc_Full) = true)
    (n_Full_row : PySem.W.findIn K (.ref cc_Full) "row" = some none)
    (n_Full_place : PySem.W.findIn K (.ref cc_Full) "place" = some none)
    (n_Full_up : PySem.W.findIn K (.ref cc_Full) "up" = some none)
    (mf_Full_shows : PySem.W.findIn K (.ref cc_Full) "shows" = some (some (.ref f_Full_shows)))
    (mi_Full_shows : PySem.W.isFn K (.ref f_Full_shows) = true)
    (a_Breaks : PySem.W.nsIn K mainGlobals "Breaks" = some (some (.ref cc_Breaks)))
    (pg_Breaks : PySem.W.plainGet K cc_Breaks Str.empty = true)
    (hd_Breaks : PySem.W.hasDictIn K cc_Breaks = true)
    (po_Breaks : PySem.W.plainOver K cc_Breaks = true)
    (sa_Breaks : PySem.W.findIn K (.ref cc_Breaks) "__setattr__" = some (some (.builtin "object.__setattr__")))
    (ha_Breaks : PySem.W.findIn K (.ref cc_Breaks) "__class__" = some (some (.builtin "object.__class__")))
    (hm_Breaks : PySem.W.mroIn K cc_Breaks (.type "object") = some true)
    (ms_Breaks : PySem.W.makesIn K cc_Breaks = true)
    (in_Breaks : PySem.W.findIn K (.ref cc_Breaks) "__init__" = some (some (.ref f_Breaks___init__)))
    (fn_Breaks : PySem.W.isFn K (.ref f_Breaks___init__) = true)
    (kc_Breaks : PySem.W.keepIn K (.ref cc_Breaks) = true)
    (n_Breaks_row : PySem.W.findIn K (.ref cc_Breaks) "row" = some none)
    (n_Breaks_place : PySem.W.findIn K (.ref cc_Breaks) "place" = some none)
    (mf_Breaks_shows : PySem.W.findIn K (.ref cc_Breaks) "shows" = some (some (.ref f_Breaks_shows)))
    (mi_Breaks_shows : PySem.W.isFn K (.ref f_Breaks_shows) = true)
    (a_Ended : PySem.W.nsIn K mainGlobals "Ended" = some (some (.ref cc_Ended)))
    (pg_Ended : PySem.W.plainGet K cc_Ended Str.empty = true)
    (hd_Ended : PySem.W.hasDictIn K cc_Ended = true)
    (po_Ended : PySem.W.plainOver K cc_Ended = true)
    (sa_Ended : PySem.W.findIn K (.ref cc_Ended) "__setattr__" = some (some (.builtin "object.__setattr__")))
    (ha_Ended : PySem.W.findIn K (.ref cc_Ended) "__class__" = some (some (.builtin "object.__class__")))
    (hm_Ended : PySem.W.mroIn K cc_Ended (.type "object") = some true)
    (ms_Ended : PySem.W.makesIn K cc_Ended = true)
    (in_Ended : PySem.W.findIn K (.ref cc_Ended) "__init__" = some (some (.ref f_Ended___init__)))
    (fn_Ended : PySem.W.isFn K (.ref f_Ended___init__) = true)
    (kc_Ended : PySem.W.keepIn K (.ref cc_Ended) = true)
    (n_Ended_smalls : PySem.W.findIn K (.ref cc_Ended) "smalls" = some none)
    (a_Out : PySem.W.nsIn K mainGlobals "Out" = some (some (.ref cc_Out)))
    (pg_Out : PySem.W.plainGet K cc_Out Str.empty = true)
    (hd_Out : PySem.W.hasDictIn K cc_Out = true)
    (po_Out : PySem.W.plainOver K cc_Out = true)
    (sa_Out : PySem.W.findIn K (.ref cc_Out) "__setattr__" = some (some (.builtin "object.__setattr__")))
    (ha_Out : PySem.W.findIn K (.ref cc_Out) "__class__" = some (some (.builtin "object.__class__")))
    (hm_Out : PySem.W.mroIn K cc_Out (.type "object") = some true)
    (ms_Out : PySem.W.makesIn K cc_Out = true)
    (in_Out : PySem.W.findIn K (.ref cc_Out) "__init__" = some (some (.ref f_Out___init__)))
    (fn_Out : PySem.W.isFn K (.ref f_Out___init__) = true)
    (kc_Out : PySem.W.keepIn K (.ref cc_Out) = true)
    (n_Out_smalls : PySem.W.findIn K (.ref cc_Out) "smalls" = some none)
    (n_Out_door : PySem.W.findIn K (.ref cc_Out) "door" = some none)
    (a_is_number : PySem.W.nsIn K mainGlobals "is_number" = some (some (.ref f_is_number)))
    (l_is_number : K.lookup f_is_number = some ⟨oc_is_number, od_is_number, .func (PySem.W.fnOf "is_number" "is_number" (defArgs s_is_number) (defBody s_is_number) (defScope s_is_number) .none kV_is_number dc_is_number pm_is_number an_is_number cd_is_number ct_is_number), sl_is_number⟩)
    (c_is_number : PySem.W.codeIn K cd_is_number "is_number" = true)
    (k_is_number : PySem.W.keepIn K (.ref f_is_number) = true)
    (a_is_letter : PySem.W.nsIn K mainGlobals "is_letter" = some (some (.ref f_is_letter)))
    (l_is_letter : K.lookup f_is_letter = some ⟨oc_is_letter, od_is_letter, .func (PySem.W.fnOf "is_letter" "is_letter" (defArgs s_is_letter) (defBody s_is_letter) (defScope s_is_letter) .none kV_is_letter dc_is_letter pm_is_letter an_is_letter cd_is_letter ct_is_letter), sl_is_letter⟩)
    (c_is_letter : PySem.W.codeIn K cd_is_letter "is_letter" = true)
    (k_is_letter : PySem.W.keepIn K (.ref f_is_letter) = true)
    (a_is_row : PySem.W.nsIn K mainGlobals "is_row" = some (some (.ref f_is_row)))
    (l_is_row : K.lookup f_is_row = some ⟨oc_is_row, od_is_row, .func (PySem.W.fnOf "is_row" "is_row" (defArgs s_is_row) (defBody s_is_row) (defScope s_is_row) .none kV_is_row dc_is_row pm_is_row an_is_row cd_is_row ct_is_row), sl_is_row⟩)
    (c_is_row : PySem.W.codeIn K cd_is_row "is_row" = true)
    (k_is_row : PySem.W.keepIn K (.ref f_is_row) = true)
    (a_is_triangle : PySem.W.nsIn K mainGlobals "is_triangle" = some (some (.ref f_is_triangle)))
    (l_is_triangle : K.lookup f_is_triangle = some ⟨oc_is_triangle, od_is_triangle, .func (PySem.W.fnOf "is_triangle" "is_triangle" (defArgs s_is_triangle) (defBody s_is_triangle) (defScope s_is_triangle) .none kV_is_triangle dc_is_triangle pm_is_triangle an_is_triangle cd_is_triangle ct_is_triangle), sl_is_triangle⟩)
    (c_is_triangle : PySem.W.codeIn K cd_is_triangle "is_triangle" = true)
    (k_is_triangle : PySem.W.keepIn K (.ref f_is_triangle) = true)
    (a_is_spot : PySem.W.nsIn K mainGlobals "is_spot" = some (some (.ref f_is_spot)))
    (l_is_spot : K.lookup f_is_spot = some ⟨oc_is_spot, od_is_spot, .func (PySem.W.fnOf "is_spot" "is_spot" (defArgs s_is_spot) (defBody s_is_spot) (defScope s_is_spot) .none kV_is_spot dc_is_spot pm_is_spot an_is_spot cd_is_spot ct_is_spot), sl_is_spot⟩)
    (c_is_spot : PySem.W.codeIn K cd_is_spot "is_spot" = true)
    (k_is_spot : PySem.W.keepIn K (.ref f_is_spot) = true)
    (a_is_small : PySem.W.nsIn K mainGlobals "is_small" = some (some (.ref f_is_small)))
    (l_is_small : K.lookup f_is_small = some ⟨oc_is_small, od_is_small, .func (PySem.W.fnOf "is_small" "is_small" (defArgs s_is_small) (defBody s_is_small) (defScope s_is_small) .none kV_is_small dc_is_small pm_is_small an_is_small cd_is_small ct_is_small), sl_is_small⟩)
    (c_is_small : PySem.W.codeIn K cd_is_small "is_small" = true)
    (k_is_small : PySem.W.keepIn K (.ref f_is_small) = true)
    (a_check_triangle : PySem.W.nsIn K mainGlobals "check_triangle" = some (some (.ref f_check_triangle)))
    (l_check_triangle : K.lookup f_check_triangle = some ⟨oc_check_triangle, od_check_triangle, .func (PySem.W.fnOf "check_triangle" "check_triangle" (defArgs s_check_triangle) (defBody s_check_triangle) (defScope s_check_triangle) .none kV_check_triangle dc_check_triangle pm_check_triangle an_check_triangle cd_check_triangle ct_check_triangle), sl_check_triangle⟩)
    (c_check_triangle : PySem.W.codeIn K cd_check_triangle "check_triangle" = true)
    (k_check_triangle : PySem.W.keepIn K (.ref f_check_triangle) = true)
    (a_check_small : PySem.W.nsIn K mainGlobals "check_small" = some (some (.ref f_check_small)))
    (l_check_small : K.lookup f_check_small = some ⟨oc_check_small, od_check_small, .func (PySem.W.fnOf "check_small" "check_small" (defArgs s_check_small) (defBody s_check_small) (defScope s_check_small) .none kV_check_small dc_check_small pm_check_small an_check_small cd_check_small ct_check_small), sl_check_small⟩)
    (c_check_small : PySem.W.codeIn K cd_check_small "check_small" = true)
    (k_check_small : PySem.W.keepIn K (.ref f_check_small) = true)
    (a_corners : PySem.W.nsIn K mainGlobals "corners" = some (some (.ref f_corners)))
    (l_corners : K.lookup f_corners = some ⟨oc_corners, od_corners, .func (PySem.W.fnOf "corners" "corners" (defArgs s_corners) (defBody s_corners) (defScope s_corners) .none kV_corners dc_corners pm_corners an_corners cd_corners ct_corners), sl_corners⟩)
    (c_corners : PySem.W.codeIn K cd_corners "corners" = true)
    (k_corners : PySem.W.keepIn K (.ref f_corners) = true)
    (a_all_smalls : PySem.W.nsIn K mainGlobals "all_smalls" = some (some (.ref f_all_smalls)))
    (l_all_smalls : K.lookup f_all_smalls = some ⟨oc_all_smalls, od_all_smalls, .func (PySem.W.fnOf "all_smalls" "all_smalls" (defArgs s_all_smalls) (defBody s_all_smalls) (defScope s_all_smalls) .none kV_all_smalls dc_all_smalls pm_all_smalls an_all_smalls cd_all_smalls ct_all_smalls), sl_all_smalls⟩)
    (c_all_smalls : PySem.W.codeIn K cd_all_smalls "all_smalls" = true)
    (k_all_smalls : PySem.W.keepIn K (.ref f_all_smalls) = true)
    (a_letters_at : PySem.W.nsIn K mainGlobals "letters_at" = some (some (.ref f_letters_at)))
    (l_letters_at : K.lookup f_letters_at = some ⟨oc_letters_at, od_letters_at, .func (PySem.W.fnOf "letters_at" "letters_at" (defArgs s_letters_at) (defBody s_letters_at) (defScope s_letters_at) .none kV_letters_at dc_letters_at pm_letters_at an_letters_at cd_letters_at ct_letters_at), sl_letters_at⟩)
    (c_letters_at : PySem.W.codeIn K cd_letters_at "letters_at" = true)
    (k_letters_at : PySem.W.keepIn K (.ref f_letters_at) = true)
    (a_turn_of : PySem.W.nsIn K mainGlobals "turn_of" = some (some (.ref f_turn_of)))
    (l_turn_of : K.lookup f_turn_of = some ⟨oc_turn_of, od_turn_of, .func (PySem.W.fnOf "turn_of" "turn_of" (defArgs s_turn_of) (defBody s_turn_of) (defScope s_turn_of) .none kV_turn_of dc_turn_of pm_turn_of an_turn_of cd_turn_of ct_turn_of), sl_turn_of⟩)
    (c_turn_of : PySem.W.codeIn K cd_turn_of "turn_of" = true)
    (k_turn_of : PySem.W.keepIn K (.ref f_turn_of) = true)
    (a_side_spots : PySem.W.nsIn K mainGlobals "side_spots" = some (some (.ref f_side_spots)))
    (l_side_spots : K.lookup f_side_spots = some ⟨oc_side_spots, od_side_spots, .func (PySem.W.fnOf "side_spots" "side_spots" (defArgs s_side_spots) (defBody s_side_spots) (defScope s_side_spots) .none kV_side_spots dc_side_spots pm_side_spots an_side_spots cd_side_spots ct_side_spots), sl_side_spots⟩)
    (c_side_spots : PySem.W.codeIn K cd_side_spots "side_spots" = true)
    (k_side_spots : PySem.W.keepIn K (.ref f_side_spots) = true)
    (a_side_steps : PySem.W.nsIn K mainGlobals "side_steps" = some (some (.ref f_side_steps)))
    (l_side_steps : K.lookup f_side_steps = some ⟨oc_side_steps, od_side_steps, .func (PySem.W.fnOf "side_steps" "side_steps" (defArgs s_side_steps) (defBody s_side_steps) (defScope s_side_steps) .none kV_side_steps dc_side_steps pm_side_steps an_side_steps cd_side_steps ct_side_steps), sl_side_steps⟩)
    (c_side_steps : PySem.W.codeIn K cd_side_steps "side_steps" = true)
    (k_side_steps : PySem.W.keepIn K (.ref f_side_steps) = true)
    (a_is_door : PySem.W.nsIn K mainGlobals "is_door" = some (some (.ref f_is_door)))
    (l_is_door : K.lookup f_is_door = some ⟨oc_is_door, od_is_door, .func (PySem.W.fnOf "is_door" "is_door" (defArgs s_is_door) (defBody s_is_door) (defScope s_is_door) .none kV_is_door dc_is_door pm_is_door an_is_door cd_is_door ct_is_door), sl_is_door⟩)
    (c_is_door : PySem.W.codeIn K cd_is_door "is_door" = true)
    (k_is_door : PySem.W.keepIn K (.ref f_is_door) = true)
    (a_breaks_rule : PySem.W.nsIn K mainGlobals "breaks_rule" = some (some (.ref f_breaks_rule)))
    (l_breaks_rule : K.lookup f_breaks_rule = some ⟨oc_breaks_rule, od_breaks_rule, .func (PySem.W.fnOf "breaks_rule" "breaks_rule" (defArgs s_breaks_rule) (defBody s_breaks_rule) (defScope s_breaks_rule) .none kV_breaks_rule dc_breaks_rule pm_breaks_rule an_breaks_rule cd_breaks_rule ct_breaks_rule), sl_breaks_rule⟩)
    (c_breaks_rule : PySem.W.codeIn K cd_breaks_rule "breaks_rule" = true)
    (k_breaks_rule : PySem.W.keepIn K (.ref f_breaks_rule) = true)
    (a_fulls : PySem.W.nsIn K mainGlobals "fulls" = some (some (.ref f_fulls)))
    (l_fulls : K.lookup f_fulls = some ⟨oc_fulls, od_fulls, .func (PySem.W.fnOf "fulls" "fulls" (defArgs s_fulls) (defBody s_fulls) (defScope s_fulls) .none kV_fulls dc_fulls pm_fulls an_fulls cd_fulls ct_fulls), sl_fulls⟩)
    (c_fulls : PySem.W.codeIn K cd_fulls "fulls" = true)
    (k_fulls : PySem.W.keepIn K (.ref f_fulls) = true)
    (a_around : PySem.W.nsIn K mainGlobals "around" = some (some (.ref f_around)))
    (l_around : K.lookup f_around = some ⟨oc_around, od_around, .func (PySem.W.fnOf "around" "around" (defArgs s_around) (defBody s_around) (defScope s_around) .none kV_around dc_around pm_around an_around cd_around ct_around), sl_around⟩)
    (c_around : PySem.W.codeIn K cd_around "around" = true)
    (k_around : PySem.W.keepIn K (.ref f_around) = true)
    (a_doors : PySem.W.nsIn K mainGlobals "doors" = some (some (.ref f_doors)))
    (l_doors : K.lookup f_doors = some ⟨oc_doors, od_doors, .func (PySem.W.fnOf "doors" "doors" (defArgs s_doors) (defBody s_doors) (defScope s_doors) .none kV_doors dc_doors pm_doors an_doors cd_doors ct_doors), sl_doors⟩)
    (c_doors : PySem.W.codeIn K cd_doors "doors" = true)
    (k_doors : PySem.W.keepIn K (.ref f_doors) = true)
    (a_turn : PySem.W.nsIn K mainGlobals "turn" = some (some (.ref f_turn)))
    (l_turn : K.lookup f_turn = some ⟨oc_turn, od_turn, .func (PySem.W.fnOf "turn" "turn" (defArgs s_turn) (defBody s_turn) (defScope s_turn) .none kV_turn dc_turn pm_turn an_turn cd_turn ct_turn), sl_turn⟩)
    (c_turn : PySem.W.codeIn K cd_turn "turn" = true)
    (k_turn : PySem.W.keepIn K (.ref f_turn) = true)
    (a_put : PySem.W.nsIn K mainGlobals "put" = some (some (.ref f_put)))
    (l_put : K.lookup f_put = some ⟨oc_put, od_put, .func (PySem.W.fnOf "put" "put" (defArgs s_put) (defBody s_put) (defScope s_put) .none kV_put dc_put pm_put an_put cd_put ct_put), sl_put⟩)
    (c_put : PySem.W.codeIn K cd_put "put" = true)
    (k_put : PySem.W.keepIn K (.ref f_put) = true)
    (l_Full___init__ : K.lookup f_Full___init__ = some ⟨oc_Full___init__, od_Full___init__, .func (PySem.W.fnOf "__init__" "Full.__init__" (defArgs s_Full___init__) (defBody s_Full___init__) (defScope s_Full___init__) .none kV_Full___init__ dc_Full___init__ pm_Full___init__ an_Full___init__ cd_Full___init__ ct_Full___init__), sl_Full___init__⟩)
    (c_Full___init__ : PySem.W.codeIn K cd_Full___init__ "Full.__init__" = true)
    (k_Full___init__ : PySem.W.keepIn K (.ref f_Full___init__) = true)
    (l_Full_shows : K.lookup f_Full_shows = some ⟨oc_Full_shows, od_Full_shows, .func (PySem.W.fnOf "shows" "Full.shows" (defArgs s_Full_shows) (defBody s_Full_shows) (defScope s_Full_shows) .none kV_Full_shows dc_Full_shows pm_Full_shows an_Full_shows cd_Full_shows ct_Full_shows), sl_Full_shows⟩)
    (c_Full_shows : PySem.W.codeIn K cd_Full_shows "Full.shows" = true)
    (k_Full_shows : PySem.W.keepIn K (.ref f_Full_shows) = true)
    (l_Breaks___init__ : K.lookup f_Breaks___init__ = some ⟨oc_Breaks___init__, od_Breaks___init__, .func (PySem.W.fnOf "__init__" "Breaks.__init__" (defArgs s_Breaks___init__) (defBody s_Breaks___init__) (defScope s_Breaks___init__) .none kV_Breaks___init__ dc_Breaks___init__ pm_Breaks___init__ an_Breaks___init__ cd_Breaks___init__ ct_Breaks___init__), sl_Breaks___init__⟩)
    (c_Breaks___init__ : PySem.W.codeIn K cd_Breaks___init__ "Breaks.__init__" = true)
    (k_Breaks___init__ : PySem.W.keepIn K (.ref f_Breaks___init__) = true)
    (l_Breaks_shows : K.lookup f_Breaks_shows = some ⟨oc_Breaks_shows, od_Breaks_shows, .func (PySem.W.fnOf "shows" "Breaks.shows" (defArgs s_Breaks_shows) (defBody s_Breaks_shows) (defScope s_Breaks_shows) .none kV_Breaks_shows dc_Breaks_shows pm_Breaks_shows an_Breaks_shows cd_Breaks_shows ct_Breaks_shows), sl_Breaks_shows⟩)
    (c_Breaks_shows : PySem.W.codeIn K cd_Breaks_shows "Breaks.shows" = true)
    (k_Breaks_shows : PySem.W.keepIn K (.ref f_Breaks_shows) = true)
    (l_Ended___init__ : K.lookup f_Ended___init__ = some ⟨oc_Ended___init__, od_Ended___init__, .func (PySem.W.fnOf "__init__" "Ended.__init__" (defArgs s_Ended___init__) (defBody s_Ended___init__) (defScope s_Ended___init__) .none kV_Ended___init__ dc_Ended___init__ pm_Ended___init__ an_Ended___init__ cd_Ended___init__ ct_Ended___init__), sl_Ended___init__⟩)
    (c_Ended___init__ : PySem.W.codeIn K cd_Ended___init__ "Ended.__init__" = true)
    (k_Ended___init__ : PySem.W.keepIn K (.ref f_Ended___init__) = true)
    (l_Out___init__ : K.lookup f_Out___init__ = some ⟨oc_Out___init__, od_Out___init__, .func (PySem.W.fnOf "__init__" "Out.__init__" (defArgs s_Out___init__) (defBody s_Out___init__) (defScope s_Out___init__) .none kV_Out___init__ dc_Out___init__ pm_Out___init__ an_Out___init__ cd_Out___init__ ct_Out___init__), sl_Out___init__⟩)
    (c_Out___init__ : PySem.W.codeIn K cd_Out___init__ "Out.__init__" = true)
    (k_Out___init__ : PySem.W.keepIn K (.ref f_Out___init__) = true)
    (a_left_of : PySem.W.nsIn K mainGlobals "left_of" = some (some (.ref f_left_of)))
    (l_left_of : K.lookup f_left_of = some ⟨oc_left_of, od_left_of, .func (PySem.W.fnOf "left_of" "left_of" (defArgs s_left_of) (defBody s_left_of) (defScope s_left_of) .none kV_left_of dc_left_of pm_left_of an_left_of cd_left_of ct_left_of), sl_left_of⟩)
    (c_left_of : PySem.W.codeIn K cd_left_of "left_of" = true)
    (k_left_of : PySem.W.keepIn K (.ref f_left_of) = true)
    (a_way_on : PySem.W.nsIn K mainGlobals "way_on" = some (some (.ref f_way_on)))
    (l_way_on : K.lookup f_way_on = some ⟨oc_way_on, od_way_on, .func (PySem.W.fnOf "way_on" "way_on" (defArgs s_way_on) (defBody s_way_on) (defScope s_way_on) .none kV_way_on dc_way_on pm_way_on an_way_on cd_way_on ct_way_on), sl_way_on⟩)
    (c_way_on : PySem.W.codeIn K cd_way_on "way_on" = true)
    (k_way_on : PySem.W.keepIn K (.ref f_way_on) = true)
    (a_walk_on : PySem.W.nsIn K mainGlobals "walk_on" = some (some (.ref f_walk_on)))
    (l_walk_on : K.lookup f_walk_on = some ⟨oc_walk_on, od_walk_on, .func (PySem.W.fnOf "walk_on" "walk_on" (defArgs s_walk_on) (defBody s_walk_on) (defScope s_walk_on) .none kV_walk_on dc_walk_on pm_walk_on an_walk_on cd_walk_on ct_walk_on), sl_walk_on⟩)
    (c_walk_on : PySem.W.codeIn K cd_walk_on "walk_on" = true)
    (k_walk_on : PySem.W.keepIn K (.ref f_walk_on) = true)
    (a_told : PySem.W.nsIn K mainGlobals "told" = some (some (.ref f_told)))
    (l_told : K.lookup f_told = some ⟨oc_told, od_told, .func (PySem.W.fnOf "told" "told" (defArgs s_told) (defBody s_told) (defScope s_told) .none kV_told dc_told pm_told an_told cd_told ct_told), sl_told⟩)
    (c_told : PySem.W.codeIn K cd_told "told" = true)
    (k_told : PySem.W.keepIn K (.ref f_told) = true)
    (a_walk : PySem.W.nsIn K mainGlobals "walk" = some (some (.ref f_walk)))
    (l_walk : K.lookup f_walk = some ⟨oc_walk, od_walk, .func (PySem.W.fnOf "walk" "walk" (defArgs s_walk) (defBody s_walk) (defScope s_walk) .none kV_walk dc_walk pm_walk an_walk cd_walk ct_walk), sl_walk⟩)
    (c_walk : PySem.W.codeIn K cd_walk "walk" = true)
    (k_walk : PySem.W.keepIn K (.ref f_walk) = true)
    (a_walk_out : PySem.W.nsIn K mainGlobals "walk_out" = some (some (.ref f_walk_out)))
    (l_walk_out : K.lookup f_walk_out = some ⟨oc_walk_out, od_walk_out, .func (PySem.W.fnOf "walk_out" "walk_out" (defArgs s_walk_out) (defBody s_walk_out) (defScope s_walk_out) .none kV_walk_out dc_walk_out pm_walk_out an_walk_out cd_walk_out ct_walk_out), sl_walk_out⟩)
    (c_walk_out : PySem.W.codeIn K cd_walk_out "walk_out" = true)
    (k_walk_out : PySem.W.keepIn K (.ref f_walk_out) = true)
    (a__law_number : PySem.W.nsIn K mainGlobals "_law_number" = some (some (.ref f__law_number)))
    (l__law_number : K.lookup f__law_number = some ⟨oc__law_number, od__law_number, .func (PySem.W.fnOf "_law_number" "_law_number" (defArgs s__law_number) (defBody s__law_number) (defScope s__law_number) .none kV__law_number dc__law_number pm__law_number an__law_number cd__law_number ct__law_number), sl__law_number⟩)
    (c__law_number : PySem.W.codeIn K cd__law_number "_law_number" = true)
    (k__law_number : PySem.W.keepIn K (.ref f__law_number) = true)
    (a__law_plain : PySem.W.nsIn K mainGlobals "_law_plain" = some (some (.ref f__law_plain)))
    (l__law_plain : K.lookup f__law_plain = some ⟨oc__law_plain, od__law_plain, .func (PySem.W.fnOf "_law_plain" "_law_plain" (defArgs s__law_plain) (defBody s__law_plain) (defScope s__law_plain) .none kV__law_plain dc__law_plain pm__law_plain an__law_plain cd__law_plain ct__law_plain), sl__law_plain⟩)
    (c__law_plain : PySem.W.codeIn K cd__law_plain "_law_plain" = true)
    (k__law_plain : PySem.W.keepIn K (.ref f__law_plain) = true)
    (a__law_truths : PySem.W.nsIn K mainGlobals "_law_truths" = some (some (.ref f__law_truths)))
    (l__law_truths : K.lookup f__law_truths = some ⟨oc__law_truths, od__law_truths, .func (PySem.W.fnOf "_law_truths" "_law_truths" (defArgs s__law_truths) (defBody s__law_truths) (defScope s__law_truths) .none kV__law_truths dc__law_truths pm__law_truths an__law_truths cd__law_truths ct__law_truths), sl__law_truths⟩)
    (c__law_truths : PySem.W.codeIn K cd__law_truths "_law_truths" = true)
    (k__law_truths : PySem.W.keepIn K (.ref f__law_truths) = true)
    (a__law_triangle_right : PySem.W.nsIn K mainGlobals "_law_triangle_right" = some (some (.ref f__law_triangle_right)))
    (l__law_triangle_right : K.lookup f__law_triangle_right = some ⟨oc__law_triangle_right, od__law_triangle_right, .func (PySem.W.fnOf "_law_triangle_right" "_law_triangle_right" (defArgs s__law_triangle_right) (defBody s__law_triangle_right) (defScope s__law_triangle_right) .none kV__law_triangle_right dc__law_triangle_right pm__law_triangle_right an__law_triangle_right cd__law_triangle_right ct__law_triangle_right), sl__law_triangle_right⟩)
    (c__law_triangle_right : PySem.W.codeIn K cd__law_triangle_right "_law_triangle_right" = true)
    (k__law_triangle_right : PySem.W.keepIn K (.ref f__law_triangle_right) = true)
    (a__law_promises_right : PySem.W.nsIn K mainGlobals "_law_promises_right" = some (some (.ref f__law_promises_right)))
    (l__law_promises_right : K.lookup f__law_promises_right = some ⟨oc__law_promises_right, od__law_promises_right, .func (PySem.W.fnOf "_law_promises_right" "_law_promises_right" (defArgs s__law_promises_right) (defBody s__law_promises_right) (defScope s__law_promises_right) .none kV__law_promises_right dc__law_promises_right pm__law_promises_right an__law_promises_right cd__law_promises_right ct__law_promises_right), sl__law_promises_right⟩)
    (c__law_promises_right : PySem.W.codeIn K cd__law_promises_right "_law_promises_right" = true)
    (k__law_promises_right : PySem.W.keepIn K (.ref f__law_promises_right) = true)
    (a__law_walks_promises : PySem.W.nsIn K mainGlobals "_law_walks_promises" = some (some (.ref f__law_walks_promises)))
    (l__law_walks_promises : K.lookup f__law_walks_promises = some ⟨oc__law_walks_promises, od__law_walks_promises, .func (PySem.W.fnOf "_law_walks_promises" "_law_walks_promises" (defArgs s__law_walks_promises) (defBody s__law_walks_promises) (defScope s__law_walks_promises) .none kV__law_walks_promises dc__law_walks_promises pm__law_walks_promises an__law_walks_promises cd__law_walks_promises ct__law_walks_promises), sl__law_walks_promises⟩)
    (c__law_walks_promises : PySem.W.codeIn K cd__law_walks_promises "_law_walks_promises" = true)
    (k__law_walks_promises : PySem.W.keepIn K (.ref f__law_walks_promises) = true)
    (a_law : PySem.W.nsIn K mainGlobals "law" = some (some (.ref f_law)))
    (l_law : K.lookup f_law = some ⟨oc_law, od_law, .func (PySem.W.fnOf "law" "law" (defArgs s_law) (defBody s_law) (defScope s_law) .none kV_law dc_law pm_law an_law cd_law ct_law), sl_law⟩)
    (c_law : PySem.W.codeIn K cd_law "law" = true)
    (k_law : PySem.W.keepIn K (.ref f_law) = true)
    (z_abs : PySem.W.nsIn K mainGlobals "abs" = some none)
    (z_all : PySem.W.nsIn K mainGlobals "all" = some none)
    (z_bool : PySem.W.nsIn K mainGlobals "bool" = some none)
    (z_enumerate : PySem.W.nsIn K mainGlobals "enumerate" = some none)
    (z_int : PySem.W.nsIn K mainGlobals "int" = some none)
    (z_isinstance : PySem.W.nsIn K mainGlobals "isinstance" = some none)
    (z_len : PySem.W.nsIn K mainGlobals "len" = some none)
    (z_list : PySem.W.nsIn K mainGlobals "list" = some none)
    (z_min : PySem.W.nsIn K mainGlobals "min" = some none)
    (z_range : PySem.W.nsIn K mainGlobals "range" = some none)
    (z_str : PySem.W.nsIn K mainGlobals "str" = some none)
    (z_sum : PySem.W.nsIn K mainGlobals "sum" = some none)
    (z_tuple : PySem.W.nsIn K mainGlobals "tuple" = some none)
    (z_zip : PySem.W.nsIn K mainGlobals "zip" = some none)
    (a_DOOR_STEPS : PySem.W.nsIn K mainGlobals "DOOR_STEPS" = some (some (.ref c_DOOR_STEPS)))
    (l_DOOR_STEPS : K.lookup c_DOOR_STEPS = some ⟨.type "tuple", od_DOOR_STEPS, .seq #[.str "ab" t0_DOOR_STEPS, .str "ba" t1_DOOR_STEPS] n_DOOR_STEPS, sl_DOOR_STEPS⟩)
    (a_LEFT_ROUNDS : PySem.W.nsIn K mainGlobals "LEFT_ROUNDS" = some (some (.ref c_LEFT_ROUNDS)))
    (l_LEFT_ROUNDS : K.lookup c_LEFT_ROUNDS = some ⟨.type "tuple", od_LEFT_ROUNDS, .seq #[.str "abc" t0_LEFT_ROUNDS, .str "bca" t1_LEFT_ROUNDS, .str "cab" t2_LEFT_ROUNDS] n_LEFT_ROUNDS, sl_LEFT_ROUNDS⟩)
    (a_LETTERS : PySem.W.nsIn K mainGlobals "LETTERS" = some (some (.ref c_LETTERS)))
    (l_LETTERS : K.lookup c_LETTERS = some ⟨.type "tuple", od_LETTERS, .seq #[.str "a" t0_LETTERS, .str "b" t1_LETTERS, .str "c" t2_LETTERS] n_LETTERS, sl_LETTERS⟩)
    (a_RIGHT_ROUNDS : PySem.W.nsIn K mainGlobals "RIGHT_ROUNDS" = some (some (.ref c_RIGHT_ROUNDS)))
    (l_RIGHT_ROUNDS : K.lookup c_RIGHT_ROUNDS = some ⟨.type "tuple", od_RIGHT_ROUNDS, .seq #[.str "acb" t0_RIGHT_ROUNDS, .str "cba" t1_RIGHT_ROUNDS, .str "bac" t2_RIGHT_ROUNDS] n_RIGHT_ROUNDS, sl_RIGHT_ROUNDS⟩)
    (gs : PySem.W.specialIn K (.builtin "object.__class__") "__get__" = some (some (.builtin "getset_descriptor.__get__")))
    (tks : PySem.W.takesIn K (.builtin "object.__class__") = some true)
    (i_Full_Full : PySem.W.kitOne K (.ref cc_Full) (.ref cc_Full) = some true)
    (i_Full_Breaks : PySem.W.kitOne K (.ref cc_Full) (.ref cc_Breaks) = some false)
    (i_Full_Ended : PySem.W.kitOne K (.ref cc_Full) (.ref cc_Ended) = some false)
    (i_Full_Out : PySem.W.kitOne K (.ref cc_Full) (.ref cc_Out) = some false)
    (i_Breaks_Full : PySem.W.kitOne K (.ref cc_Breaks) (.ref cc_Full) = some false)
    (i_Breaks_Breaks : PySem.W.kitOne K (.ref cc_Breaks) (.ref cc_Breaks) = some true)
    (i_Breaks_Ended : PySem.W.kitOne K (.ref cc_Breaks) (.ref cc_Ended) = some false)
    (i_Breaks_Out : PySem.W.kitOne K (.ref cc_Breaks) (.ref cc_Out) = some false)
    (i_Ended_Full : PySem.W.kitOne K (.ref cc_Ended) (.ref cc_Full) = some false)
    (i_Ended_Breaks : PySem.W.kitOne K (.ref cc_Ended) (.ref cc_Breaks) = some false)
    (i_Ended_Ended : PySem.W.kitOne K (.ref cc_Ended) (.ref cc_Ended) = some true)
    (i_Ended_Out : PySem.W.kitOne K (.ref cc_Ended) (.ref cc_Out) = some false)
    (i_Out_Full : PySem.W.kitOne K (.ref cc_Out) (.ref cc_Full) = some false)
    (i_Out_Breaks : PySem.W.kitOne K (.ref cc_Out) (.ref cc_Breaks) = some false)
    (i_Out_Ended : PySem.W.kitOne K (.ref cc_Out) (.ref cc_Ended) = some false)
    (i_Out_Out : PySem.W.kitOne K (.ref cc_Out) (.ref cc_Out) = some true)
    : ∃ fd : FuncData, (∀ (s : Shared) (v : Value), BindsTo s fd ⟨[v], []⟩ [("_law_script", v)]) ∧ ∀ base : Heap, K.In base → base.Ns mainGlobals mg → FnOk l.prog w K mg base CX0 8 fa fd ["_law_script"] (SpLaw K) := by
  have e := hfa.symm.trans (PySem.W.mg_of X G a_law)
  cases e
  exact ⟨_, fun s v => .of_eq rfl, fun base _ _ => ok_law ({
    C_Full := cc_Full,
    g_Full := PySem.W.mg_of X G a_Full,
    o_Full := ⟨⟨pg_Full, hd_Full, po_Full, sa_Full⟩, ha_Full, gs, tks, hm_Full⟩,
    mk_Full := ⟨ms_Full, in_Full, fn_Full, kc_Full⟩,
    n_Full_row := n_Full_row,
    n_Full_place := n_Full_place,
    n_Full_up := n_Full_up,
    m_Full_shows := ⟨mf_Full_shows, mi_Full_shows, k_Full_shows⟩,
    C_Breaks := cc_Breaks,
    g_Breaks := PySem.W.mg_of X G a_Breaks,
    o_Breaks := ⟨⟨pg_Breaks, hd_Breaks, po_Breaks, sa_Breaks⟩, ha_Breaks, gs, tks, hm_Breaks⟩,
    mk_Breaks := ⟨ms_Breaks, in_Breaks, fn_Breaks, kc_Breaks⟩,
    n_Breaks_row := n_Breaks_row,
    n_Breaks_place := n_Breaks_place,
    m_Breaks_shows := ⟨mf_Breaks_shows, mi_Breaks_shows, k_Breaks_shows⟩,
    C_Ended := cc_Ended,
    g_Ended := PySem.W.mg_of X G a_Ended,
    o_Ended := ⟨⟨pg_Ended, hd_Ended, po_Ended, sa_Ended⟩, ha_Ended, gs, tks, hm_Ended⟩,
    mk_Ended := ⟨ms_Ended, in_Ended, fn_Ended, kc_Ended⟩,
    n_Ended_smalls := n_Ended_smalls,
    C_Out := cc_Out,
    g_Out := PySem.W.mg_of X G a_Out,
    o_Out := ⟨⟨pg_Out, hd_Out, po_Out, sa_Out⟩, ha_Out, gs, tks, hm_Out⟩,
    mk_Out := ⟨ms_Out, in_Out, fn_Out, kc_Out⟩,
    n_Out_smalls := n_Out_smalls,
    n_Out_door := n_Out_door,
    a_is_number := f_is_number,
    d_is_number := _,
    F_is_number := fun_mk (st := s_is_number) l_is_number c_is_number k_is_number,
    b_is_number := (fun_mk (st := s_is_number) l_is_number c_is_number k_is_number).binds (ps := ["value"]) fun _ _ _ _ _ _ us hl => match us, hl with | [_], _ => rfl,
    g_is_number := PySem.W.mg_of X G a_is_number,
    a_is_letter := f_is_letter,
    d_is_letter := _,
    F_is_letter := fun_mk (st := s_is_letter) l_is_letter c_is_letter k_is_letter,
    b_is_letter := (fun_mk (st := s_is_letter) l_is_letter c_is_letter k_is_letter).binds (ps := ["value"]) fun _ _ _ _ _ _ us hl => match us, hl with | [_], _ => rfl,
    g_is_letter := PySem.W.mg_of X G a_is_letter,
    a_is_row := f_is_row,
    d_is_row := _,
    F_is_row := fun_mk (st := s_is_row) l_is_row c_is_row k_is_row,
    b_is_row := (fun_mk (st := s_is_row) l_is_row c_is_row k_is_row).binds (ps := ["row", "many"]) fun _ _ _ _ _ _ us hl => match us, hl with | [_, _], _ => rfl,
    g_is_row := PySem.W.mg_of X G a_is_row,
    a_is_triangle := f_is_triangle,
    d_is_triangle := _,
    F_is_triangle := fun_mk (st := s_is_triangle) l_is_triangle c_is_triangle k_is_triangle,
    b_is_triangle := (fun_mk (st := s_is_triangle) l_is_triangle c_is_triangle k_is_triangle).binds (ps := ["triangle"]) fun _ _ _ _ _ _ us hl => match us, hl with | [_], _ => rfl,
    g_is_triangle := PySem.W.mg_of X G a_is_triangle,
    a_is_spot := f_is_spot,
    d_is_spot := _,
    F_is_spot := fun_mk (st := s_is_spot) l_is_spot c_is_spot k_is_spot,
    b_is_spot := (fun_mk (st := s_is_spot) l_is_spot c_is_spot k_is_spot).binds (ps := ["triangle", "row", "place"]) fun _ _ _ _ _ _ us hl => match us, hl with | [_, _, _], _ => rfl,
    g_is_spot := PySem.W.mg_of X G a_is_spot,
    a_is_small := f_is_small,
    d_is_small := _,
    F_is_small := fun_mk (st := s_is_small) l_is_small c_is_small k_is_small,
    b_is_small := (fun_mk (st := s_is_small) l_is_small c_is_small k_is_small).binds (ps := ["triangle", "small"]) fun _ _ _ _ _ _ us hl => match us, hl with | [_, _], _ => rfl,
    g_is_small := PySem.W.mg_of X G a_is_small,
    a_check_triangle := f_check_triangle,
    d_check_triangle := _,
    F_check_triangle := fun_mk (st := s_check_triangle) l_check_triangle c_check_triangle k_check_triangle,
    b_check_triangle := (fun_mk (st := s_check_triangle) l_check_triangle c_check_triangle k_check_triangle).binds (ps := ["triangle"]) fun _ _ _ _ _ _ us hl => match us, hl with | [_], _ => rfl,
    g_check_triangle := PySem.W.mg_of X G a_check_triangle,
    a_check_small := f_check_small,
    d_check_small := _,
    F_check_small := fun_mk (st := s_check_small) l_check_small c_check_small k_check_small,
    b_check_small := (fun_mk (st := s_check_small) l_check_small c_check_small k_check_small).binds (ps := ["triangle", "small"]) fun _ _ _ _ _ _ us hl => match us, hl with | [_, _], _ => rfl,
    g_check_small := PySem.W.mg_of X G a_check_small,
    a_corners := f_corners,
    d_corners := _,
    F_corners := fun_mk (st := s_corners) l_corners c_corners k_corners,
    b_corners := (fun_mk (st := s_corners) l_corners c_corners k_corners).binds (ps := ["small"]) fun _ _ _ _ _ _ us hl => match us, hl with | [_], _ => rfl,
    g_corners := PySem.W.mg_of X G a_corners,
    a_all_smalls := f_all_smalls,
    d_all_smalls := _,
    F_all_smalls := fun_mk (st := s_all_smalls) l_all_smalls c_all_smalls k_all_smalls,
    b_all_smalls := (fun_mk (st := s_all_smalls) l_all_smalls c_all_smalls k_all_smalls).binds (ps := ["triangle"]) fun _ _ _ _ _ _ us hl => match us, hl with | [_], _ => rfl,
    g_all_smalls := PySem.W.mg_of X G a_all_smalls,
    a_letters_at := f_letters_at,
    d_letters_at := _,
    F_letters_at := fun_mk (st := s_letters_at) l_letters_at c_letters_at k_letters_at,
    b_letters_at := (fun_mk (st := s_letters_at) l_letters_at c_letters_at k_letters_at).binds (ps := ["triangle", "spots"]) fun _ _ _ _ _ _ us hl => match us, hl with | [_, _], _ => rfl,
    g_letters_at := PySem.W.mg_of X G a_letters_at,
    a_turn_of := f_turn_of,
    d_turn_of := _,
    F_turn_of := fun_mk (st := s_turn_of) l_turn_of c_turn_of k_turn_of,
    b_turn_of := (fun_mk (st := s_turn_of) l_turn_of c_turn_of k_turn_of).binds (ps := ["triangle", "small"]) fun _ _ _ _ _ _ us hl => match us, hl with | [_, _], _ => rfl,
    g_turn_of := PySem.W.mg_of X G a_turn_of,
    a_side_spots := f_side_spots,
    d_side_spots := _,
    F_side_spots := fun_mk (st := s_side_spots) l_side_spots c_side_spots k_side_spots,
    b_side_spots := (fun_mk (st := s_side_spots) l_side_spots c_side_spots k_side_spots).binds (ps := ["triangle"]) fun _ _ _ _ _ _ us hl => match us, hl with | [_], _ => rfl,
    g_side_spots := PySem.W.mg_of X G a_side_spots,
    a_side_steps := f_side_steps,
    d_side_steps := _,
    F_side_steps := fun_mk (st := s_side_steps) l_side_steps c_side_steps k_side_steps,
    b_side_steps := (fun_mk (st := s_side_steps) l_side_steps c_side_steps k_side_steps).binds (ps := ["triangle"]) fun _ _ _ _ _ _ us hl => match us, hl with | [_], _ => rfl,
    g_side_steps := PySem.W.mg_of X G a_side_steps,
    a_is_door := f_is_door,
    d_is_door := _,
    F_is_door := fun_mk (st := s_is_door) l_is_door c_is_door k_is_door,
    b_is_door := (fun_mk (st := s_is_door) l_is_door c_is_door k_is_door).binds (ps := ["triangle", "step"]) fun _ _ _ _ _ _ us hl => match us, hl with | [_, _], _ => rfl,
    g_is_door := PySem.W.mg_of X G a_is_door,
    a_breaks_rule := f_breaks_rule,
    d_breaks_rule := _,
    F_breaks_rule := fun_mk (st := s_breaks_rule) l_breaks_rule c_breaks_rule k_breaks_rule,
    b_breaks_rule := (fun_mk (st := s_breaks_rule) l_breaks_rule c_breaks_rule k_breaks_rule).binds (ps := ["triangle", "row", "place"]) fun _ _ _ _ _ _ us hl => match us, hl with | [_, _, _], _ => rfl,
    g_breaks_rule := PySem.W.mg_of X G a_breaks_rule,
    a_fulls := f_fulls,
    d_fulls := _,
    F_fulls := fun_mk (st := s_fulls) l_fulls c_fulls k_fulls,
    b_fulls := (fun_mk (st := s_fulls) l_fulls c_fulls k_fulls).binds (ps := ["triangle"]) fun _ _ _ _ _ _ us hl => match us, hl with | [_], _ => rfl,
    g_fulls := PySem.W.mg_of X G a_fulls,
    a_around := f_around,
    d_around := _,
    F_around := fun_mk (st := s_around) l_around c_around k_around,
    b_around := (fun_mk (st := s_around) l_around c_around k_around).binds (ps := ["triangle"]) fun _ _ _ _ _ _ us hl => match us, hl with | [_], _ => rfl,
    g_around := PySem.W.mg_of X G a_around,
    a_doors := f_doors,
    d_doors := _,
    F_doors := fun_mk (st := s_doors) l_doors c_doors k_doors,
    b_doors := (fun_mk (st := s_doors) l_doors c_doors k_doors).binds (ps := ["triangle"]) fun _ _ _ _ _ _ us hl => match us, hl with | [_], _ => rfl,
    g_doors := PySem.W.mg_of X G a_doors,
    a_turn := f_turn,
    d_turn := _,
    F_turn := fun_mk (st := s_turn) l_turn c_turn k_turn,
    b_turn := (fun_mk (st := s_turn) l_turn c_turn k_turn).binds (ps := ["triangle", "small"]) fun _ _ _ _ _ _ us hl => match us, hl with | [_, _], _ => rfl,
    g_turn := PySem.W.mg_of X G a_turn,
    a_put := f_put,
    d_put := _,
    F_put := fun_mk (st := s_put) l_put c_put k_put,
    b_put := (fun_mk (st := s_put) l_put c_put k_put).binds (ps := ["triangle", "row", "place", "letter"]) fun _ _ _ _ _ _ us hl => match us, hl with | [_, _, _, _], _ => rfl,
    g_put := PySem.W.mg_of X G a_put,
    a_Full___init__ := f_Full___init__,
    d_Full___init__ := _,
    F_Full___init__ := fun_mk (st := s_Full___init__) l_Full___init__ c_Full___init__ k_Full___init__,
    b_Full___init__ := (fun_mk (st := s_Full___init__) l_Full___init__ c_Full___init__ k_Full___init__).binds (ps := ["self", "row", "place", "up"]) fun _ _ _ _ _ _ us hl => match us, hl with | [_, _, _, _], _ => rfl,
    a_Full_shows := f_Full_shows,
    d_Full_shows := _,
    F_Full_shows := fun_mk (st := s_Full_shows) l_Full_shows c_Full_shows k_Full_shows,
    b_Full_shows := (fun_mk (st := s_Full_shows) l_Full_shows c_Full_shows k_Full_shows).binds (ps := ["self", "triangle"]) fun _ _ _ _ _ _ us hl => match us, hl with | [_, _], _ => rfl,
    a_Breaks___init__ := f_Breaks___init__,
    d_Breaks___init__ := _,
    F_Breaks___init__ := fun_mk (st := s_Breaks___init__) l_Breaks___init__ c_Breaks___init__ k_Breaks___init__,
    b_Breaks___init__ := (fun_mk (st := s_Breaks___init__) l_Breaks___init__ c_Breaks___init__ k_Breaks___init__).binds (ps := ["self", "row", "place"]) fun _ _ _ _ _ _ us hl => match us, hl with | [_, _, _], _ => rfl,
    a_Breaks_shows := f_Breaks_shows,
    d_Breaks_shows := _,
    F_Breaks_shows := fun_mk (st := s_Breaks_shows) l_Breaks_shows c_Breaks_shows k_Breaks_shows,
    b_Breaks_shows := (fun_mk (st := s_Breaks_shows) l_Breaks_shows c_Breaks_shows k_Breaks_shows).binds (ps := ["self", "triangle"]) fun _ _ _ _ _ _ us hl => match us, hl with | [_, _], _ => rfl,
    a_Ended___init__ := f_Ended___init__,
    d_Ended___init__ := _,
    F_Ended___init__ := fun_mk (st := s_Ended___init__) l_Ended___init__ c_Ended___init__ k_Ended___init__,
    b_Ended___init__ := (fun_mk (st := s_Ended___init__) l_Ended___init__ c_Ended___init__ k_Ended___init__).binds (ps := ["self", "smalls"]) fun _ _ _ _ _ _ us hl => match us, hl with | [_, _], _ => rfl,
    a_Out___init__ := f_Out___init__,
    d_Out___init__ := _,
    F_Out___init__ := fun_mk (st := s_Out___init__) l_Out___init__ c_Out___init__ k_Out___init__,
    b_Out___init__ := (fun_mk (st := s_Out___init__) l_Out___init__ c_Out___init__ k_Out___init__).binds (ps := ["self", "smalls", "door"]) fun _ _ _ _ _ _ us hl => match us, hl with | [_, _, _], _ => rfl,
    a_left_of := f_left_of,
    d_left_of := _,
    F_left_of := fun_mk (st := s_left_of) l_left_of c_left_of k_left_of,
    b_left_of := (fun_mk (st := s_left_of) l_left_of c_left_of k_left_of).binds (ps := ["step"]) fun _ _ _ _ _ _ us hl => match us, hl with | [_], _ => rfl,
    g_left_of := PySem.W.mg_of X G a_left_of,
    a_way_on := f_way_on,
    d_way_on := _,
    F_way_on := fun_mk (st := s_way_on) l_way_on c_way_on k_way_on,
    b_way_on := (fun_mk (st := s_way_on) l_way_on c_way_on k_way_on).binds (ps := ["triangle", "small", "came"]) fun _ _ _ _ _ _ us hl => match us, hl with | [_, _, _], _ => rfl,
    g_way_on := PySem.W.mg_of X G a_way_on,
    a_walk_on := f_walk_on,
    d_walk_on := _,
    F_walk_on := fun_mk (st := s_walk_on) l_walk_on c_walk_on k_walk_on,
    b_walk_on := (fun_mk (st := s_walk_on) l_walk_on c_walk_on k_walk_on).binds (ps := ["triangle", "small", "came"]) fun _ _ _ _ _ _ us hl => match us, hl with | [_, _, _], _ => rfl,
    g_walk_on := PySem.W.mg_of X G a_walk_on,
    a_told := f_told,
    d_told := _,
    F_told := fun_mk (st := s_told) l_told c_told k_told,
    b_told := (fun_mk (st := s_told) l_told c_told k_told).binds (ps := ["triangle"]) fun _ _ _ _ _ _ us hl => match us, hl with | [_], _ => rfl,
    g_told := PySem.W.mg_of X G a_told,
    a_walk := f_walk,
    d_walk := _,
    F_walk := fun_mk (st := s_walk) l_walk c_walk k_walk,
    b_walk := (fun_mk (st := s_walk) l_walk c_walk k_walk).binds (ps := ["triangle", "door"]) fun _ _ _ _ _ _ us hl => match us, hl with | [_, _], _ => rfl,
    g_walk := PySem.W.mg_of X G a_walk,
    a_walk_out := f_walk_out,
    d_walk_out := _,
    F_walk_out := fun_mk (st := s_walk_out) l_walk_out c_walk_out k_walk_out,
    b_walk_out := (fun_mk (st := s_walk_out) l_walk_out c_walk_out k_walk_out).binds (ps := ["triangle", "small"]) fun _ _ _ _ _ _ us hl => match us, hl with | [_, _], _ => rfl,
    g_walk_out := PySem.W.mg_of X G a_walk_out,
    a__law_number := f__law_number,
    d__law_number := _,
    F__law_number := fun_mk (st := s__law_number) l__law_number c__law_number k__law_number,
    b__law_number := (fun_mk (st := s__law_number) l__law_number c__law_number k__law_number).binds (ps := ["_law_cell", "_law_at", "_law_whole"]) fun _ _ _ _ _ _ us hl => match us, hl with | [_, _, _], _ => rfl,
    g__law_number := PySem.W.mg_of X G a__law_number,
    a__law_plain := f__law_plain,
    d__law_plain := _,
    F__law_plain := fun_mk (st := s__law_plain) l__law_plain c__law_plain k__law_plain,
    b__law_plain := (fun_mk (st := s__law_plain) l__law_plain c__law_plain k__law_plain).binds (ps := ["_law_thing"]) fun _ _ _ _ _ _ us hl => match us, hl with | [_], _ => rfl,
    g__law_plain := PySem.W.mg_of X G a__law_plain,
    a__law_truths := f__law_truths,
    d__law_truths := _,
    F__law_truths := fun_mk (st := s__law_truths) l__law_truths c__law_truths k__law_truths,
    b__law_truths := (fun_mk (st := s__law_truths) l__law_truths c__law_truths k__law_truths).binds (ps := ["_law_things"]) fun _ _ _ _ _ _ us hl => match us, hl with | [_], _ => rfl,
    g__law_truths := PySem.W.mg_of X G a__law_truths,
    a__law_triangle_right := f__law_triangle_right,
    d__law_triangle_right := _,
    F__law_triangle_right := fun_mk (st := s__law_triangle_right) l__law_triangle_right c__law_triangle_right k__law_triangle_right,
    b__law_triangle_right := (fun_mk (st := s__law_triangle_right) l__law_triangle_right c__law_triangle_right k__law_triangle_right).binds (ps := ["_law_triangle"]) fun _ _ _ _ _ _ us hl => match us, hl with | [_], _ => rfl,
    g__law_triangle_right := PySem.W.mg_of X G a__law_triangle_right,
    a__law_promises_right := f__law_promises_right,
    d__law_promises_right := _,
    F__law_promises_right := fun_mk (st := s__law_promises_right) l__law_promises_right c__law_promises_right k__law_promises_right,
    b__law_promises_right := (fun_mk (st := s__law_promises_right) l__law_promises_right c__law_promises_right k__law_promises_right).binds (ps := []) fun _ _ _ _ _ _ us hl => match us, hl with | [], _ => rfl,
    g__law_promises_right := PySem.W.mg_of X G a__law_promises_right,
    a__law_walks_promises := f__law_walks_promises,
    d__law_walks_promises := _,
    F__law_walks_promises := fun_mk (st := s__law_walks_promises) l__law_walks_promises c__law_walks_promises k__law_walks_promises,
    b__law_walks_promises := (fun_mk (st := s__law_walks_promises) l__law_walks_promises c__law_walks_promises k__law_walks_promises).binds (ps := ["_law_two", "_law_three", "_law_back"]) fun _ _ _ _ _ _ us hl => match us, hl with | [_, _, _], _ => rfl,
    g__law_walks_promises := PySem.W.mg_of X G a__law_walks_promises,
    a_law := fa,
    d_law := _,
    F_law := fun_mk (st := s_law) l_law c_law k_law,
    b_law := (fun_mk (st := s_law) l_law c_law k_law).binds (ps := ["_law_script"]) fun _ _ _ _ _ _ us hl => match us, hl with | [_], _ => rfl,
    g_law := PySem.W.mg_of X G a_law,
    z_abs := PySem.W.mg_none_of X G z_abs,
    z_all := PySem.W.mg_none_of X G z_all,
    z_bool := PySem.W.mg_none_of X G z_bool,
    z_enumerate := PySem.W.mg_none_of X G z_enumerate,
    z_int := PySem.W.mg_none_of X G z_int,
    z_isinstance := PySem.W.mg_none_of X G z_isinstance,
    z_len := PySem.W.mg_none_of X G z_len,
    z_list := PySem.W.mg_none_of X G z_list,
    z_min := PySem.W.mg_none_of X G z_min,
    z_range := PySem.W.mg_none_of X G z_range,
    z_str := PySem.W.mg_none_of X G z_str,
    z_sum := PySem.W.mg_none_of X G z_sum,
    z_tuple := PySem.W.mg_none_of X G z_tuple,
    z_zip := PySem.W.mg_none_of X G z_zip,
    a_DOOR_STEPS := c_DOOR_STEPS,
    g_DOOR_STEPS := PySem.W.mg_of X G a_DOOR_STEPS,
    k_DOOR_STEPS := fun H => .inr ⟨_, _, _, l_DOOR_STEPS, rfl, rfl, by show 2 ≤ sizeLine; decide, .cons ⟨_, rfl⟩ (.cons ⟨_, rfl⟩ (.nil))⟩,
    a_LEFT_ROUNDS := c_LEFT_ROUNDS,
    g_LEFT_ROUNDS := PySem.W.mg_of X G a_LEFT_ROUNDS,
    k_LEFT_ROUNDS := fun H => .inr ⟨_, _, _, l_LEFT_ROUNDS, rfl, rfl, by show 3 ≤ sizeLine; decide, .cons ⟨_, rfl⟩ (.cons ⟨_, rfl⟩ (.cons ⟨_, rfl⟩ (.nil)))⟩,
    a_LETTERS := c_LETTERS,
    g_LETTERS := PySem.W.mg_of X G a_LETTERS,
    k_LETTERS := fun H => .inr ⟨_, _, _, l_LETTERS, rfl, rfl, by show 3 ≤ sizeLine; decide, .cons ⟨_, rfl⟩ (.cons ⟨_, rfl⟩ (.cons ⟨_, rfl⟩ (.nil)))⟩,
    a_RIGHT_ROUNDS := c_RIGHT_ROUNDS,
    g_RIGHT_ROUNDS := PySem.W.mg_of X G a_RIGHT_ROUNDS,
    k_RIGHT_ROUNDS := fun H => .inr ⟨_, _, _, l_RIGHT_ROUNDS, rfl, rfl, by show 3 ≤ sizeLine; decide, .cons ⟨_, rfl⟩ (.cons ⟨_, rfl⟩ (.cons ⟨_, rfl⟩ (.nil)))⟩,
    i_Full_Full := i_Full_Full,
    i_Full_Breaks := i_Full_Breaks,
    i_Full_Ended := i_Full_Ended,
    i_Full_Out := i_Full_Out,
    i_Breaks_Full := i_Breaks_Full,
    i_Breaks_Breaks := i_Breaks_Breaks,
    i_Breaks_Ended := i_Breaks_Ended,
    i_Breaks_Out := i_Breaks_Out,
    i_Ended_Full := i_Ended_Full,
    i_Ended_Breaks := i_Ended_Breaks,
    i_Ended_Ended := i_Ended_Ended,
    i_Ended_Out := i_Ended_Out,
    i_Out_Full := i_Out_Full,
    i_Out_Breaks := i_Out_Breaks,
    i_Out_Ended := i_Out_Ended,
    i_Out_Out := i_Out_Out
  } : Tx K mg)⟩
end Dt
open PySem PySem.W PyProof.Rows
set_option maxHeartbeats 0 in
theorem PySem.Challenge.cw_doorwalk_k07_whole_numbers_holds : PySem.Challenge.rw_doorwalk_k07_whole_numbers.Holds := by
  w_on; o_law; k_head; (case hw => w_witness2)
  k_fill
  refine L2.walk_of (l := PySem.Challenge.rw_doorwalk_k07_whole_numbers) (n := 63) (k := 8) (x := "_law_script") (CX := fun _ => L2.CX0) (sp := fun w => Dt.SpLaw _) rfl (by decide) rfl ⟨rfl, by decide, by decide⟩ (fun w h Y => PySem.W.kIn_of Y) ?F (fun _ _ a ns hl _ hS => ⟨a, ns, rfl, hS, hl, fun _ => rfl⟩) (fun _ _ _ _ _ h => h)
  case F =>
    intro w mg fa h KX G hmg
    refine' Dt.all_mk KX G hmg ?a_Full ?pg_Full ?hd_Full ?po_Full ?sa_Full ?ha_Full ?hm_Full ?ms_Full ?in_Full ?fn_Full ?kc_Full ?n_Full_row ?n_Full_place ?n_Full_up ?mf_Full_shows ?mi_Full_shows ?a_Breaks ?pg_Breaks ?hd_Breaks ?po_Breaks ?sa_Breaks ?ha_Breaks ?hm_Breaks ?ms_Breaks ?in_Breaks ?fn_Breaks ?kc_Breaks ?n_Breaks_row ?n_Breaks_place ?mf_Breaks_shows ?mi_Breaks_shows ?a_Ended ?pg_Ended ?hd_Ended ?po_Ended ?sa_Ended ?ha_Ended ?hm_Ended ?ms_Ended ?in_Ended ?fn_Ended ?kc_Ended ?n_Ended_smalls ?a_Out ?pg_Out ?hd_Out ?po_Out ?sa_Out ?ha_Out ?hm_Out ?ms_Out ?in_Out ?fn_Out ?kc_Out ?n_Out_smalls ?n_Out_door ?a_is_number ?l_is_number ?c_is_number ?k_is_number ?a_is_letter ?l_is_letter ?c_is_letter ?k_is_letter ?a_is_row ?l_is_row ?c_is_row ?k_is_row ?a_is_triangle ?l_is_triangle ?c_is_triangle ?k_is_triangle ?a_is_spot ?l_is_spot ?c_is_spot ?k_is_spot ?a_is_small ?l_is_small ?c_is_small ?k_is_small ?a_check_triangle ?l_check_triangle ?c_check_triangle ?k_check_triangle ?a_check_small ?l_check_small ?c_check_small ?k_check_small ?a_corners ?l_corners ?c_corners ?k_corners ?a_all_smalls ?l_all_smalls ?c_all_smalls ?k_all_smalls ?a_letters_at ?l_letters_at ?c_letters_at ?k_letters_at ?a_turn_of ?l_turn_of ?c_turn_of ?k_turn_of ?a_side_spots ?l_side_spots ?c_side_spots ?k_side_spots ?a_side_steps ?l_side_steps ?c_side_steps ?k_side_steps ?a_is_door ?l_is_door ?c_is_door ?k_is_door ?a_breaks_rule ?l_breaks_rule ?c_breaks_rule ?k_breaks_rule ?a_fulls ?l_fulls ?c_fulls ?k_fulls ?a_around ?l_around ?c_around ?k_around ?a_doors ?l_doors ?c_doors ?k_doors ?a_turn ?l_turn ?c_turn ?k_turn ?a_put ?l_put ?c_put ?k_put ?l_Full___init__ ?c_Full___init__ ?k_Full___init__ ?l_Full_shows ?c_Full_shows ?k_Full_shows ?l_Breaks___init__ ?c_Breaks___init__ ?k_Breaks___init__ ?l_Breaks_shows ?c_Breaks_shows ?k_Breaks_shows ?l_Ended___init__ ?c_Ended___init__ ?k_Ended___init__ ?l_Out___init__ ?c_Out___init__ ?k_Out___init__ ?a_left_of ?l_left_of ?c_left_of ?k_left_of ?a_way_on ?l_way_on ?c_way_on ?k_way_on ?a_walk_on ?l_walk_on ?c_walk_on ?k_walk_on ?a_told ?l_told ?c_told ?k_told ?a_walk ?l_walk ?c_walk ?k_walk ?a_walk_out ?l_walk_out ?c_walk_out ?k_walk_out ?a__law_number ?l__law_number ?c__law_number ?k__law_number ?a__law_plain ?l__law_plain ?c__law_plain ?k__law_plain ?a__law_truths ?l__law_truths ?c__law_truths ?k__law_truths ?a__law_triangle_right ?l__law_triangle_right ?c__law_triangle_right ?k__law_triangle_right ?a__law_promises_right ?l__law_promises_right ?c__law_promises_right ?k__law_promises_right ?a__law_walks_promises ?l__law_walks_promises ?c__law_walks_promises ?k__law_walks_promises ?a_law ?l_law ?c_law ?k_law ?z_abs ?z_all ?z_bool ?z_enumerate ?z_int ?z_isinstance ?z_len ?z_list ?z_min ?z_range ?z_str ?z_sum ?z_tuple ?z_zip ?a_DOOR_STEPS ?l_DOOR_STEPS ?a_LEFT_ROUNDS ?l_LEFT_ROUNDS ?a_LETTERS ?l_LETTERS ?a_RIGHT_ROUNDS ?l_RIGHT_ROUNDS ?gs ?tks ?i_Full_Full ?i_Full_Breaks ?i_Full_Ended ?i_Full_Out ?i_Breaks_Full ?i_Breaks_Breaks ?i_Breaks_Ended ?i_Breaks_Out ?i_Ended_Full ?i_Ended_Breaks ?i_Ended_Ended ?i_Ended_Out ?i_Out_Full ?i_Out_Breaks ?i_Out_Ended ?i_Out_Out
    (case a_Full => k_is)
    (case pg_Full => k_is)
    (case hd_Full => k_is)
    (case po_Full => k_is)
    (case sa_Full => k_is)
    (case ha_Full => k_is)
    (case hm_Full => k_is)
    (case ms_Full => k_is)
    (case in_Full => k_is)
    (case fn_Full => k_is)
    (case kc_Full => k_is)
    (case n_Full_row => k_is)
    (case n_Full_place => k_is)
    (case n_Full_up => k_is)
    (case mf_Full_shows => k_is)
    (case mi_Full_shows => k_is)
    (case a_Breaks => k_is)
    (case pg_Breaks => k_is)
    (case hd_Breaks => k_is)
    (case po_Breaks => k_is)
    (case sa_Breaks => k_is)
    (case ha_Breaks => k_is)
    (case hm_Breaks => k_is)
    (case ms_Breaks => k_is)
    (case in_Breaks => k_is)
    (case fn_Breaks => k_is)
    (case kc_Breaks => k_is)
    (case n_Breaks_row => k_is)
    (case n_Breaks_place => k_is)
    (case mf_Breaks_shows => k_is)
    (case mi_Breaks_shows => k_is)
    (case a_Ended => k_is)
    (case pg_Ended => k_is)
    (case hd_Ended => k_is)
    (case po_Ended => k_is)
    (case sa_Ended => k_is)
    (case ha_Ended => k_is)
    (case hm_Ended => k_is)
    (case ms_Ended => k_is)
    (case in_Ended => k_is)
    (case fn_Ended => k_is)
    (case kc_Ended => k_is)
    (case n_Ended_smalls => k_is)
    (case a_Out => k_is)
    (case pg_Out => k_is)
    (case hd_Out => k_is)
    (case po_Out => k_is)
    (case sa_Out => k_is)
    (case ha_Out => k_is)
    (case hm_Out => k_is)
    (case ms_Out => k_is)
    (case in_Out => k_is)
    (case fn_Out => k_is)
    (case kc_Out => k_is)
    (case n_Out_smalls => k_is)
    (case n_Out_door => k_is)
    (case a_is_number => k_is)
    (case l_is_number => k_is)
    (case c_is_number => k_is)
    (case k_is_number => k_is)
    (case a_is_letter => k_is)
    (case l_is_letter => k_is)
    (case c_is_letter => k_is)
    (case k_is_letter => k_is)
    (case a_is_row => k_is)
    (case l_is_row => k_is)
    (case c_is_row => k_is)
    (case k_is_row => k_is)
    (case a_is_triangle => k_is)
    (case l_is_triangle => k_is)
    (case c_is_triangle => k_is)
    (case k_is_triangle => k_is)
    (case a_is_spot => k_is)
    (case l_is_spot => k_is)
    (case c_is_spot => k_is)
    (case k_is_spot => k_is)
    (case a_is_small => k_is)
    (case l_is_small => k_is)
    (case c_is_small => k_is)
    (case k_is_small => k_is)
    (case a_check_triangle => k_is)
    (case l_check_triangle => k_is)
    (case c_check_triangle => k_is)
    (case k_check_triangle => k_is)
    (case a_check_small => k_is)
    (case l_check_small => k_is)
    (case c_check_small => k_is)
    (case k_check_small => k_is)
    (case a_corners => k_is)
    (case l_corners => k_is)
    (case c_corners => k_is)
    (case k_corners => k_is)
    (case a_all_smalls => k_is)
    (case l_all_smalls => k_is)
    (case c_all_smalls => k_is)
    (case k_all_smalls => k_is)
    (case a_letters_at => k_is)
    (case l_letters_at => k_is)
    (case c_letters_at => k_is)
    (case k_letters_at => k_is)
    (case a_turn_of => k_is)
    (case l_turn_of => k_is)
    (case c_turn_of => k_is)
    (case k_turn_of => k_is)
    (case a_side_spots => k_is)
    (case l_side_spots => k_is)
    (case c_side_spots => k_is)
    (case k_side_spots => k_is)
    (case a_side_steps => k_is)
    (case l_side_steps => k_is)
    (case c_side_steps => k_is)
    (case k_side_steps => k_is)
    (case a_is_door => k_is)
    (case l_is_door => k_is)
    (case c_is_door => k_is)
    (case k_is_door => k_is)
    (case a_breaks_rule => k_is)
    (case l_breaks_rule => k_is)
    (case c_breaks_rule => k_is)
    (case k_breaks_rule => k_is)
    (case a_fulls => k_is)
    (case l_fulls => k_is)
    (case c_fulls => k_is)
    (case k_fulls => k_is)
    (case a_around => k_is)
    (case l_around => k_is)
    (case c_around => k_is)
    (case k_around => k_is)
    (case a_doors => k_is)
    (case l_doors => k_is)
    (case c_doors => k_is)
    (case k_doors => k_is)
    (case a_turn => k_is)
    (case l_turn => k_is)
    (case c_turn => k_is)
    (case k_turn => k_is)
    (case a_put => k_is)
    (case l_put => k_is)
    (case c_put => k_is)
    (case k_put => k_is)
    (case l_Full___init__ => k_is)
    (case c_Full___init__ => k_is)
    (case k_Full___init__ => k_is)
    (case l_Full_shows => k_is)
    (case c_Full_shows => k_is)
    (case k_Full_shows => k_is)
    (case l_Breaks___init__ => k_is)
    (case c_Breaks___init__ => k_is)
    (case k_Breaks___init__ => k_is)
    (case l_Breaks_shows => k_is)
    (case c_Breaks_shows => k_is)
    (case k_Breaks_shows => k_is)
    (case l_Ended___init__ => k_is)
    (case c_Ended___init__ => k_is)
    (case k_Ended___init__ => k_is)
    (case l_Out___init__ => k_is)
    (case c_Out___init__ => k_is)
    (case k_Out___init__ => k_is)
    (case a_left_of => k_is)
    (case l_left_of => k_is)
    (case c_left_of => k_is)
    (case k_left_of => k_is)
    (case a_way_on => k_is)
    (case l_way_on => k_is)
    (case c_way_on => k_is)
    (case k_way_on => k_is)
    (case a_walk_on => k_is)
    (case l_walk_on => k_is)
    (case c_walk_on => k_is)
    (case k_walk_on => k_is)
    (case a_told => k_is)
    (case l_told => k_is)
    (case c_told => k_is)
    (case k_told => k_is)
    (case a_walk => k_is)
    (case l_walk => k_is)
    (case c_walk => k_is)
    (case k_walk => k_is)
    (case a_walk_out => k_is)
    (case l_walk_out => k_is)
    (case c_walk_out => k_is)
    (case k_walk_out => k_is)
    (case a__law_number => k_is)
    (case l__law_number => k_is)
    (case c__law_number => k_is)
    (case k__law_number => k_is)
    (case a__law_plain => k_is)
    (case l__law_plain => k_is)
    (case c__law_plain => k_is)
    (case k__law_plain => k_is)
    (case a__law_truths => k_is)
    (case l__law_truths => k_is)
    (case c__law_truths => k_is)
    (case k__law_truths => k_is)
    (case a__law_triangle_right => k_is)
    (case l__law_triangle_right => k_is)
    (case c__law_triangle_right => k_is)
    (case k__law_triangle_right => k_is)
    (case a__law_promises_right => k_is)
    (case l__law_promises_right => k_is)
    (case c__law_promises_right => k_is)
    (case k__law_promises_right => k_is)
    (case a__law_walks_promises => k_is)
    (case l__law_walks_promises => k_is)
    (case c__law_walks_promises => k_is)
    (case k__law_walks_promises => k_is)
    (case a_law => k_is)
    (case l_law => k_is)
    (case c_law => k_is)
    (case k_law => k_is)
    (case z_abs => k_is)
    (case z_all => k_is)
    (case z_bool => k_is)
    (case z_enumerate => k_is)
    (case z_int => k_is)
    (case z_isinstance => k_is)
    (case z_len => k_is)
    (case z_list => k_is)
    (case z_min => k_is)
    (case z_range => k_is)
    (case z_str => k_is)
    (case z_sum => k_is)
    (case z_tuple => k_is)
    (case z_zip => k_is)
    (case a_DOOR_STEPS => k_is)
    (case l_DOOR_STEPS => k_is)
    (case a_LEFT_ROUNDS => k_is)
    (case l_LEFT_ROUNDS => k_is)
    (case a_LETTERS => k_is)
    (case l_LETTERS => k_is)
    (case a_RIGHT_ROUNDS => k_is)
    (case l_RIGHT_ROUNDS => k_is)
    (case gs => k_is)
    (case tks => k_is)
    (case i_Full_Full => first | rfl | k_is)
    (case i_Full_Breaks => first | rfl | k_is)
    (case i_Full_Ended => first | rfl | k_is)
    (case i_Full_Out => first | rfl | k_is)
    (case i_Breaks_Full => first | rfl | k_is)
    (case i_Breaks_Breaks => first | rfl | k_is)
    (case i_Breaks_Ended => first | rfl | k_is)
    (case i_Breaks_Out => first | rfl | k_is)
    (case i_Ended_Full => first | rfl | k_is)
    (case i_Ended_Breaks => first | rfl | k_is)
    (case i_Ended_Ended => first | rfl | k_is)
    (case i_Ended_Out => first | rfl | k_is)
    (case i_Out_Full => first | rfl | k_is)
    (case i_Out_Breaks => first | rfl | k_is)
    (case i_Out_Ended => first | rfl | k_is)
    (case i_Out_Out => first | rfl | k_is)

