import PyProof.Rows.All
import Wide.All
import OpenK.AllK
import Wide.FinOn
import HandS.ForMost
import HandS.Evl
import HandS.IsInst
import HandS.Style
import KE.KDictZip
import KE.KDictList
import HandS.DictComp
import KE.KDictKeyed
import HandS.SetFor
import HandS.Strs
import HandS.Zip
import HandS.ReplaceLit
import HandS.TryOnly
import HandS.Flt
import HandS.Deep
import HandS.NoneIn
import HandS.ReplaceList
import PyProof.Rows.StrRev
import HandS.WordsExc
import HandS.ExcOwn
import HandS.ExcIs
import PyProof.StrOps2
import PySem.Challenge.RW_doorwalk_k06_refused
set_option Elab.async false
set_option linter.all false
set_option maxRecDepth 100000
set_option maxHeartbeats 4000000
/-! Values by their data: what an expression is worth as a whole, wherever it lies. -/
namespace Dt
open PySem L2 Evl

section
variable {K : PySem.W.Frag} {H H' : Hp}

mutual
theorem dpUp (e : Ex H H') : ∀ {v : V} {d : PyData}, Dp K H v d → Dp K H' v d
  | _, _, .non => .non
  | _, _, .bl b => .bl b
  | _, _, .int i => .int i
  | _, _, .str x => .str x
  | _, _, .lst s r => .lst (ex_l e s) (dpsUp e r)
  | _, _, .tup s r => .tup (ex_t e s) (dpsUp e r)
theorem dpsUp (e : Ex H H') : ∀ {vs : List V} {ds : List PyData}, DpAll K H vs ds → DpAll K H' vs ds
  | _, _, .nil => .nil
  | _, _, .cons a b => .cons (dpUp e a) (dpsUp e b)
end

theorem dpsLen : ∀ {vs : List V} {ds : List PyData}, DpAll K H vs ds → vs.length = ds.length
  | _, _, .nil => rfl
  | _, _, .cons _ b => by rw [List.length_cons, List.length_cons, dpsLen b]
theorem dpsGet : ∀ {vs : List V} {ds : List PyData} {i : Nat} {v : V}, DpAll K H vs ds → vs[i]? = some v → ∃ d, ds[i]? = some d ∧ Dp K H v d
  | _, _, _, _, .nil, h => by simp at h
  | _, _, 0, _, .cons a _, h => by simp at h; subst h; exact ⟨_, rfl, a⟩
  | _, _, i + 1, _, .cons _ b, h => by simpa using dpsGet b (i := i) (by simpa using h)
theorem dpsAt : ∀ {vs : List V} {ds : List PyData} {i : Nat} {d : PyData}, DpAll K H vs ds → ds[i]? = some d → ∃ v, vs[i]? = some v ∧ Dp K H v d
  | _, _, _, _, .nil, h => by simp at h
  | _, _, 0, _, .cons a _, h => by simp at h; subst h; exact ⟨_, rfl, a⟩
  | _, _, i + 1, _, .cons _ b, h => by simpa using dpsAt b (i := i) (by simpa using h)
theorem dpsApp : ∀ {vs ws : List V} {ds es : List PyData}, DpAll K H vs ds → DpAll K H ws es → DpAll K H (vs ++ ws) (ds ++ es)
  | _, _, _, _, .nil, h => h
  | _, _, _, _, .cons a b, h => .cons a (dpsApp b h)
theorem dpsSnoc {vs : List V} {ds : List PyData} {v : V} {d : PyData} (h : DpAll K H vs ds) (a : Dp K H v d) : DpAll K H (vs ++ [v]) (ds ++ [d]) := dpsApp h (.cons a .nil)
theorem dpsTake : ∀ {vs : List V} {ds : List PyData} (n : Nat), DpAll K H vs ds → DpAll K H (vs.take n) (ds.take n)
  | _, _, 0, _ => .nil
  | _, _, _ + 1, .nil => .nil
  | _, _, n + 1, .cons a b => .cons a (dpsTake n b)
theorem dpsDrop : ∀ {vs : List V} {ds : List PyData} (n : Nat), DpAll K H vs ds → DpAll K H (vs.drop n) (ds.drop n)
  | _, _, 0, h => h
  | _, _, _ + 1, .nil => .nil
  | _, _, n + 1, .cons _ b => dpsDrop n b
theorem dpsRev : ∀ {vs : List V} {ds : List PyData}, DpAll K H vs ds → DpAll K H vs.reverse ds.reverse
  | _, _, .nil => .nil
  | _, _, .cons a b => by
    rw [List.reverse_cons, List.reverse_cons]
    exact dpsSnoc (dpsRev b) a
theorem dpsSet : ∀ {vs : List V} {ds : List PyData} {v : V} {d : PyData} (n : Nat), DpAll K H vs ds → Dp K H v d → DpAll K H (vs.set n v) (ds.set n d)
  | _, _, _, _, _, .nil, _ => .nil
  | _, _, _, _, 0, .cons _ b, h => .cons h b
  | _, _, _, _, n + 1, .cons a b, h => .cons a (dpsSet n b h)

/-! what holds no list: it stays when lists change -/
mutual
def noL : PyData → Bool
  | .none | .bool _ | .int _ | .str _ => true
  | .tuple xs => noLs xs
  | .list _ | .dict _ => false
def noLs : List PyData → Bool
  | [] => true
  | x :: xs => noL x && noLs xs
end
theorem noLs_all : ∀ {ds : List PyData}, (∀ d ∈ ds, noL d = true) → noLs ds = true
  | [], _ => by rw [noLs]
  | d :: ds, h => by
    rw [noLs, h d (List.mem_cons_self), noLs_all fun e he => h e (List.mem_cons_of_mem _ he)]
    rfl
theorem noLs_map {α : Type} {L : List α} {f : α → PyData} (h : ∀ a ∈ L, noL (f a) = true) : noLs (L.map f) = true := noLs_all fun d hd => by
  obtain ⟨a, ha, rfl⟩ := List.mem_map.mp hd
  exact h a ha
theorem noLs_app : ∀ {ds es : List PyData}, noLs ds = true → noLs es = true → noLs (ds ++ es) = true
  | [], _, _, h => h
  | d :: ds, es, h, h2 => by
    rw [noLs, Bool.and_eq_true] at h
    rw [List.cons_append, noLs, h.1, noLs_app h.2 h2]
    rfl
/-- every tuple stays -/
def Tups (H H' : Hp) : Prop := ∀ a xs, Rd H a (.tup xs) → Rd H' a (.tup xs)
theorem tupsEx (e : Ex H H') : Tups H H' := fun _ _ h => ex_rd e h
theorem tupsMut {p : Addr} {xs ys : List V} (h : H p = some (.lst xs)) : Tups H (upd H p (.lst ys)) := fun a zs r => by
  have hne : a ≠ p := fun e => by
    subst e
    rcases r with r | ⟨o, r⟩ <;> (rw [h] at r; cases r)
  rcases r with r | ⟨o, r⟩
  · exact .inl ((upd_ne hne).trans r)
  · exact .inr ⟨o, (upd_ne hne).trans r⟩
mutual
theorem dpTups (t : Tups H H') : ∀ {v : V} {d : PyData}, Dp K H v d → noL d = true → Dp K H' v d
  | _, _, .non, _ => .non
  | _, _, .bl b, _ => .bl b
  | _, _, .int i, _ => .int i
  | _, _, .str x, _ => .str x
  | _, _, .lst _ _, h => by rw [noL] at h; cases h
  | _, _, .tup s r, h => by
    rw [noL] at h
    refine .tup ?_ (dpsTups t r h)
    rcases s with s | s
    · exact .inl (t _ _ s)
    · exact .inr s
theorem dpsTups (t : Tups H H') : ∀ {vs : List V} {ds : List PyData}, DpAll K H vs ds → noLs ds = true → DpAll K H' vs ds
  | _, _, .nil, _ => .nil
  | _, _, .cons a b, h => by
    rw [noLs, Bool.and_eq_true] at h
    exact .cons (dpTups t a h.1) (dpsTups t b h.2)
end

theorem dpInt {v : V} {i : Int} (h : Dp K H v (.int i)) : v = .int i := by cases h; rfl
theorem dpStr {v : V} {x : Str} (h : Dp K H v (.str x)) : v = .str x := by cases h; rfl
theorem dpBl {v : V} {b : Bool} (h : Dp K H v (.bool b)) : v = .bl b := by cases h; rfl
theorem dpNon {v : V} (h : Dp K H v .none) : v = .non := by cases h; rfl
theorem dpLst {v : V} {ds : List PyData} (h : Dp K H v (.list ds)) : ∃ a xs, v = .ref a ∧ SqL K H a xs ∧ DpAll K H xs ds := by
  cases h with
  | lst s r => exact ⟨_, _, rfl, s, r⟩
theorem dpTup {v : V} {ds : List PyData} (h : Dp K H v (.tuple ds)) : ∃ a xs, v = .ref a ∧ SqT K H a xs ∧ DpAll K H xs ds := by
  cases h with
  | tup s r => exact ⟨_, _, rfl, s, r⟩
theorem dps0 {vs : List V} (h : DpAll K H vs []) : vs = [] := by cases h; rfl
theorem dps1 {vs : List V} {d : PyData} (h : DpAll K H vs [d]) : ∃ v, vs = [v] ∧ Dp K H v d := by
  cases h with
  | cons a b => cases b; exact ⟨_, rfl, a⟩
theorem dps2 {vs : List V} {d e : PyData} (h : DpAll K H vs [d, e]) : ∃ v w, vs = [v, w] ∧ Dp K H v d ∧ Dp K H w e := by
  cases h with
  | cons a b =>
    obtain ⟨w, rfl, q⟩ := dps1 b
    exact ⟨_, w, rfl, a, q⟩
theorem dps3 {vs : List V} {d e f : PyData} (h : DpAll K H vs [d, e, f]) : ∃ v w x, vs = [v, w, x] ∧ Dp K H v d ∧ Dp K H w e ∧ Dp K H x f := by
  cases h with
  | cons a b =>
    obtain ⟨w, x, rfl, q⟩ := dps2 b
    exact ⟨_, w, x, rfl, a, q⟩
theorem dps4 {vs : List V} {d e f g : PyData} (h : DpAll K H vs [d, e, f, g]) : ∃ v w x y, vs = [v, w, x, y] ∧ Dp K H v d ∧ Dp K H w e ∧ Dp K H x f ∧ Dp K H y g := by
  cases h with
  | cons a b =>
    obtain ⟨w, x, y, rfl, q⟩ := dps3 b
    exact ⟨_, w, x, y, rfl, a, q⟩
theorem dpOfL {a : Addr} {xs : List V} {ds : List PyData} (h : H a = some (.lst xs)) (r : DpAll K H xs ds) : Dp K H (.ref a) (.list ds) := .lst (sq_of h) r
theorem dpOfT {a : Addr} {xs : List V} {ds : List PyData} (h : H a = some (.tup xs)) (r : DpAll K H xs ds) : Dp K H (.ref a) (.tuple ds) := .tup (st_of h) r
end

/-! ### what an expression is worth -/
def EvD (K : PySem.W.Frag) (te : TE) (σ : L2.St) (H : Hp) (d : PyData) : Prop := ∀ H1, Ex H H1 → ∀ Q : VK, (∀ v H2, Ex H1 H2 → Dp K H2 v d → Q v H2) → te σ H1 Q
/-- a new list -/
def EvN (K : PySem.W.Frag) (te : TE) (σ : L2.St) (H : Hp) (ds : List PyData) : Prop := ∀ H1, Ex H H1 → ∀ Q : VK, (∀ p xs H2, H1 p = none → Ex H1 H2 → H2 p = some (.lst xs) → DpAll K H2 xs ds → Q (.ref p) H2) → te σ H1 Q
def EvAD (K : PySem.W.Frag) (ta : TA) (σ : L2.St) (H : Hp) (ds : List PyData) : Prop := ∀ H1, Ex H H1 → ∀ Q : List V → Hp → Prop, (∀ vs H2, Ex H1 H2 → DpAll K H2 vs ds → Q vs H2) → ta σ H1 Q

section
variable {K : PySem.W.Frag} {σ : L2.St} {H H' : Hp} {ta tb te tx : TE} {t u : TT} {x y z v : V} {r : R2} {d e : PyData}
theorem EvD.up (a : Ex H H') (h : EvD K te σ H d) : EvD K te σ H' d := fun H1 b Q q => h H1 (a.trans b) Q q
theorem EvN.up {ds : List PyData} (a : Ex H H') (h : EvN K te σ H ds) : EvN K te σ H' ds := fun H1 b Q q => h H1 (a.trans b) Q q
theorem EvAD.up {ta : TA} {ds : List PyData} (a : Ex H H') (h : EvAD K ta σ H ds) : EvAD K ta σ H' ds := fun H1 b Q q => h H1 (a.trans b) Q q
theorem edV {i : Nat} (h : σ[i]? = some (some v)) (hd : Dp K H v d) : EvD K (tVar i) σ H d := fun H1 a _ q => ⟨v, h, q v H1 (Ex.refl H1) (dpUp a hd)⟩
theorem edE (h : Ev te σ H v) (hd : ∀ H1 : Hp, Dp K H1 v d) : EvD K te σ H d := fun H1 a Q q => h H1 a Q fun H2 b => q v H2 b (hd H2)
theorem edI {i : Int} (h : Ev te σ H (.int i)) : EvD K te σ H (.int i) := edE h fun _ => .int i
theorem edS {w : Str} (h : Ev te σ H (.str w)) : EvD K te σ H (.str w) := edE h fun _ => .str w
theorem edB {b : Bool} (h : Ev te σ H (.bl b)) : EvD K te σ H (.bool b) := edE h fun _ => .bl b
theorem edNn (h : Ev te σ H .non) : EvD K te σ H .none := edE h fun _ => .non
theorem evI {i : Int} (h : EvD K te σ H (.int i)) : Ev te σ H (.int i) := fun H1 a Q q => h H1 a Q fun v H2 b hd => by rw [dpInt hd]; exact q H2 b
theorem evS {w : Str} (h : EvD K te σ H (.str w)) : Ev te σ H (.str w) := fun H1 a Q q => h H1 a Q fun v H2 b hd => by rw [dpStr hd]; exact q H2 b
theorem evB {c : Bool} (h : EvD K te σ H (.bool c)) : Ev te σ H (.bl c) := fun H1 a Q q => h H1 a Q fun v H2 b hd => by rw [dpBl hd]; exact q H2 b
theorem evNn (h : EvD K te σ H .none) : Ev te σ H .non := fun H1 a Q q => h H1 a Q fun v H2 b hd => by rw [dpNon hd]; exact q H2 b
theorem edN {ds : List PyData} (h : EvN K te σ H ds) : EvD K te σ H (.list ds) := fun H1 a Q q => h H1 a Q fun p xs H2 _ b h2 hd => q _ H2 b (dpOfL h2 hd)
theorem edIs (h : EvD K te σ H d) (q : d = e) : EvD K te σ H e := by rw [← q]; exact h
theorem enIs {ds es : List PyData} (h : EvN K te σ H ds) (q : ds = es) : EvN K te σ H es := by rw [← q]; exact h
theorem aNil : EvAD K tNil σ H [] := fun H1 _ _ q => q [] H1 (Ex.refl H1) .nil
theorem aCons {tr : TA} {ds : List PyData} (h : EvD K te σ H d) (hr : EvAD K tr σ H ds) : EvAD K (tCons te tr) σ H (d :: ds) := fun H1 a _ q =>
  h H1 a _ fun v H2 b hd => hr H2 (a.trans b) _ fun vs H3 c hds => q _ H3 (b.trans c) (.cons (dpUp c hd) hds)
theorem edTup {ta : TA} {ds : List PyData} (h : EvAD K ta σ H ds) (hl : ds.length ≤ 100000) : EvD K (tTup ta) σ H (.tuple ds) := fun H1 a _ q =>
  h H1 a _ fun vs H2 b hd => ⟨sz_of (by rw [dpsLen hd]; exact hl), fun p hp => q _ _ (b.trans (Ex.new hp)) (dpOfT upd_same (dpsUp (Ex.new hp) hd))⟩
theorem enLst {ta : TA} {ds : List PyData} (h : EvAD K ta σ H ds) (hl : ds.length ≤ 100000) : EvN K (tLst ta) σ H ds := fun H1 a _ q =>
  h H1 a _ fun vs H2 b hd => ⟨sz_of (by rw [dpsLen hd]; exact hl), fun p hp => q p _ _ (fresh_back b hp) (b.trans (Ex.new hp)) upd_same (dpsUp (Ex.new hp) hd)⟩
/-- operations -/
theorem edOp2 {f : PyData} (ha : EvD K ta σ H d) (hb : EvD K tb σ H e) (hr : ∀ H1 x y, Ex H H1 → Dp K H1 x d → Dp K H1 y e → ∀ Q : VK, (∀ v H2, Ex H1 H2 → Dp K H2 v f → Q v H2) → r x y H1 Q) : EvD K (tOp r ta tb) σ H f := fun H1 a Q q =>
  ha H1 a _ fun x H2 b hx => hb H2 (a.trans b) _ fun y H3 c hy => hr H3 x y ((a.trans b).trans c) (dpUp c hx) hy Q fun v H4 k hv => q v H4 ((b.trans c).trans k) hv
theorem atMap {ds : List PyData} {xs : List V} {i : Int} (h : DpAll K H xs ds) (ha : atI ds i = some d) : ∃ v, atI xs i = some v ∧ Dp K H v d := by
  unfold atI at ha ⊢
  rw [dpsLen h]
  cases hj : ixN ds.length i with
  | none => rw [hj] at ha; cases ha
  | some j =>
    rw [hj] at ha
    exact dpsAt h ha
theorem edIxL {ds : List PyData} {i : Int} (ha : EvD K ta σ H (.list ds)) (hb : EvD K tb σ H (.int i)) (hi : atI ds i = some d) : EvD K (tOp (rIxL K) ta tb) σ H d :=
  edOp2 ha hb fun H1 x y _ hx hy Q q => by
    obtain ⟨a, xs, rfl, hs, hr⟩ := dpLst hx
    have hy := dpInt hy
    subst hy
    obtain ⟨v, h1, h2⟩ := atMap hr hi
    exact ⟨a, xs, i, v, rfl, rfl, hs, h1, q v H1 (Ex.refl H1) h2⟩
theorem edIxT {ds : List PyData} {i : Int} (ha : EvD K ta σ H (.tuple ds)) (hb : EvD K tb σ H (.int i)) (hi : atI ds i = some d) : EvD K (tOp (rIxT K) ta tb) σ H d :=
  edOp2 ha hb fun H1 x y _ hx hy Q q => by
    obtain ⟨a, xs, rfl, hs, hr⟩ := dpTup hx
    have hy := dpInt hy
    subst hy
    obtain ⟨v, h1, h2⟩ := atMap hr hi
    exact ⟨a, xs, i, v, rfl, rfl, hs, h1, q v H1 (Ex.refl H1) h2⟩
theorem edIxS {w : Str} {i : Int} {c : Nat} (ha : EvD K ta σ H (.str w)) (hb : EvD K tb σ H (.int i)) (hl : w.length ≤ 100000) (hi : atI w.cps.toList i = some c) : EvD K (tOp rIxS ta tb) σ H (.str ⟨#[c]⟩) :=
  edS (ev_op (evS ha) (evI hb) (rv_ixS hl hi))
/-- sums of ints | of texts -/
theorem edI2 {g : Int → Int → V} {i j k : Int} (ha : EvD K ta σ H (.int i)) (hb : EvD K tb σ H (.int j)) (hg : g i j = .int k) : EvD K (tOp (rI0 g) ta tb) σ H (.int k) :=
  edI (ev_is (ev_op (evI ha) (evI hb) rv_I0) hg)
theorem edI2c {C : Int → Int → Prop} {g : Int → Int → V} {i j k : Int} (ha : EvD K ta σ H (.int i)) (hb : EvD K tb σ H (.int j)) (hc : C i j) (hg : g i j = .int k) : EvD K (tOp (rI C g) ta tb) σ H (.int k) :=
  edI (ev_is (ev_op (evI ha) (evI hb) (rv_I hc)) hg)
/-- slices of lists: new -/
theorem dpsCut {xs : List V} {ds : List PyData} (h : DpAll K H xs ds) (lo hi : Option Int) : DpAll K H (cutV xs lo hi) ((ds.drop (HT.sIx ds.length 0 lo)).take (HT.sIx ds.length ds.length hi - HT.sIx ds.length 0 lo)) := by
  unfold cutV
  rw [dpsLen h]
  exact dpsTake _ (dpsDrop _ h)
def cutD (ds : List PyData) (lo hi : Option Int) : List PyData := (ds.drop (HT.sIx ds.length 0 lo)).take (HT.sIx ds.length ds.length hi - HT.sIx ds.length 0 lo)
theorem enCut {tl th : TO} {ds : List PyData} {lo hi : Option Int} (h : EvD K te σ H (.list ds)) (h1 : EvO tl σ H lo) (h2 : EvO th σ H hi) : EvN K (tSl (rSlL K) te tl th) σ H (cutD ds lo hi) := fun H1 a _ q =>
  h H1 a _ fun v H2 b hd => h1 H2 (a.trans b) _ fun H3 c => h2 H3 ((a.trans b).trans c) _ fun H4 k => by
    obtain ⟨p, xs, rfl, hs, hr⟩ := dpLst hd
    exact ⟨p, xs, rfl, ex_l (c.trans k) hs, fun l hl => q l _ _ (fresh_back ((b.trans c).trans k) hl) (((b.trans c).trans k).trans (Ex.new hl)) upd_same (dpsCut (dpsUp ((c.trans k).trans (Ex.new hl)) hr) lo hi)⟩
/-- the sum of two new lists -/
theorem enCat {ds es : List PyData} (ha : EvN K ta σ H ds) (hb : EvN K tb σ H es) (hl : ds.length + es.length ≤ 100000) : EvN K (tOp rCat ta tb) σ H (ds ++ es) := fun H1 a _ q =>
  ha H1 a _ fun p xs H2 hp b h2 hd => hb H2 (a.trans b) _ fun p' ys H3 hp' c h3 he =>
    ⟨p, p', xs, ys, rfl, rfl, c p _ h2, h3, sz_of (by rw [dpsLen hd, dpsLen he]; exact hl), fun l hlz => q l _ _ (fresh_back (b.trans c) hlz) ((b.trans c).trans (Ex.new hlz)) upd_same
      (dpsApp (dpsUp (c.trans (Ex.new hlz)) hd) (dpsUp (Ex.new hlz) he))⟩
/-- lists that stand as tracked lists -/
theorem enCatV {i j : Nat} {p p' : Addr} {xs ys : List V} {ds es : List PyData} (hi : σ[i]? = some (some (.ref p))) (hj : σ[j]? = some (some (.ref p'))) (h1 : H p = some (.lst xs)) (h2 : H p' = some (.lst ys)) (hd : DpAll K H xs ds) (he : DpAll K H ys es) (hl : ds.length + es.length ≤ 100000) :
    EvN K (tOp rCat (tVar i) (tVar j)) σ H (ds ++ es) := fun H1 a _ q =>
  ⟨_, hi, _, hj, p, p', xs, ys, rfl, rfl, a p _ h1, a p' _ h2, sz_of (by rw [dpsLen hd, dpsLen he]; exact hl), fun l hlz => q l _ _ hlz (Ex.new hlz) upd_same
      (dpsApp (dpsUp (a.trans (Ex.new hlz)) hd) (dpsUp (a.trans (Ex.new hlz)) he))⟩
/-- a new list and one that stands -/
theorem enCatNV {j : Nat} {p' : Addr} {ys : List V} {ds es : List PyData} (ha : EvN K ta σ H ds) (hj : σ[j]? = some (some (.ref p'))) (h2 : H p' = some (.lst ys)) (he : DpAll K H ys es) (hl : ds.length + es.length ≤ 100000) :
    EvN K (tOp rCat ta (tVar j)) σ H (ds ++ es) := fun H1 a _ q =>
  ha H1 a _ fun p xs H2 hp b h1 hd => ⟨_, hj, p, p', xs, ys, rfl, rfl, h1, b _ _ (a p' _ h2), sz_of (by rw [dpsLen hd, dpsLen he]; exact hl), fun l hlz => q l _ _ (fresh_back b hlz) (b.trans (Ex.new hlz)) upd_same
      (dpsApp (dpsUp (Ex.new hlz) hd) (dpsUp ((a.trans b).trans (Ex.new hlz)) he))⟩
/-- == and != of data -/
theorem evEq (ha : EvD K ta σ H d) (hb : EvD K tb σ H e) (sd : SeqAt.shaped d = true) (se : SeqAt.shaped e = true) : Ev (tOp (rEqD K) ta tb) σ H (.bl (PyData.eqv d e)) := fun H1 a Q q =>
  ha H1 a _ fun x H2 b hx => hb H2 (a.trans b) _ fun y H3 c hy => ⟨d, e, dpUp c hx, hy, sd, se, q H3 (b.trans c)⟩
theorem evNe (ha : EvD K ta σ H d) (hb : EvD K tb σ H e) (sd : SeqAt.shaped d = true) (se : SeqAt.shaped e = true) : Ev (tOp (rNeD K) ta tb) σ H (.bl (!PyData.eqv d e)) := fun H1 a Q q =>
  ha H1 a _ fun x H2 b hx => hb H2 (a.trans b) _ fun y H3 c hy => ⟨d, e, dpUp c hx, hy, sd, se, q H3 (b.trans c)⟩
theorem eqvSelf (sd : SeqAt.shaped d = true) : PyData.eqv d d = true := SeqAt.eqv_refl d (SeqAt.canLay_of_shaped sd)
theorem evSame (ha : EvD K ta σ H d) (hb : EvD K tb σ H d) (sd : SeqAt.shaped d = true) : Ev (tOp (rEqD K) ta tb) σ H (.bl true) := ev_is (evEq ha hb sd sd) (by rw [eqvSelf sd])
theorem evDiff (ha : EvD K ta σ H d) (hb : EvD K tb σ H d) (sd : SeqAt.shaped d = true) : Ev (tOp (rNeD K) ta tb) σ H (.bl false) := ev_is (evNe ha hb sd sd) (by rw [eqvSelf sd]; rfl)
/-- flat things in a list, in a tuple -/
def fV : PyData → Option V
  | .none => some .non
  | .bool b => some (.bl b)
  | .int i => some (.int i)
  | .str x => some (.str x)
  | _ => none
theorem fvIs {d : PyData} {w : V} (h : fV d = some w) (hv : Dp K H v d) : v = w := by
  cases hv <;> simp [fV] at h <;> exact h
theorem fvAll : ∀ {ds : List PyData} {vs ws : List V}, ds.map fV = ws.map some → DpAll K H vs ds → vs = ws
  | [], vs, ws, h, hd => by
    cases hd
    cases ws with
    | nil => rfl
    | cons => cases h
  | d :: ds, vs, ws, h, hd => by
    cases hd with
    | cons a b =>
      cases ws with
      | nil => cases h
      | cons w ws =>
        rw [List.map_cons, List.map_cons] at h
        injection h with h1 h2
        rw [fvIs h1 a, fvAll h2 b]
theorem evInT {neg : Bool} {ds : List PyData} {w : V} {ws : List V} (ha : EvD K ta σ H d) (hb : EvD K tb σ H (.tuple ds)) (hw : fV d = some w) (hs : ds.map fV = ws.map some) (f1 : flatV w = true) (f2 : ws.all flatV = true) :
    Ev (tOp (rIn K neg) ta tb) σ H (.bl (if neg then !inV w ws else inV w ws)) := fun H1 a Q q =>
  ha H1 a _ fun x H2 b hx => hb H2 (a.trans b) _ fun y H3 c hy => by
    obtain ⟨p, xs, rfl, hsq, hr⟩ := dpTup hy
    have e1 := fvIs hw hx
    have e2 := fvAll hs hr
    subst e1 e2
    exact ⟨p, xs, rfl, .inr hsq, f1, f2, q H3 (b.trans c)⟩
theorem evInL {neg : Bool} {ds : List PyData} {w : V} {ws : List V} (ha : EvD K ta σ H d) (hb : EvD K tb σ H (.list ds)) (hw : fV d = some w) (hs : ds.map fV = ws.map some) (f1 : flatV w = true) (f2 : ws.all flatV = true) :
    Ev (tOp (rIn K neg) ta tb) σ H (.bl (if neg then !inV w ws else inV w ws)) := fun H1 a Q q =>
  ha H1 a _ fun x H2 b hx => hb H2 (a.trans b) _ fun y H3 c hy => by
    obtain ⟨p, xs, rfl, hsq, hr⟩ := dpLst hy
    have e1 := fvIs hw hx
    have e2 := fvAll hs hr
    subst e1 e2
    exact ⟨p, xs, rfl, .inl hsq, f1, f2, q H3 (b.trans c)⟩
/-- len -/
def lenR (K : PySem.W.Frag) : List V → Hp → VK → Prop := fun xs H Q => ∃ x n, xs = [x] ∧ LenV K x H n ∧ Q (.int n) H
theorem edLenL {ds : List PyData} (h : EvD K te σ H (.list ds)) : EvD K (tCB (lenR K) (tCons te tNil)) σ H (.int ds.length) := edI fun H1 a Q q =>
  h H1 a _ fun v H2 b hd => by
    obtain ⟨p, xs, rfl, hs, hr⟩ := dpLst hd
    exact ⟨_, ds.length, rfl, .inl ⟨xs, hs, (dpsLen hr).symm⟩, q H2 b⟩
theorem edLenT {ds : List PyData} (h : EvD K te σ H (.tuple ds)) : EvD K (tCB (lenR K) (tCons te tNil)) σ H (.int ds.length) := edI fun H1 a Q q =>
  h H1 a _ fun v H2 b hd => by
    obtain ⟨p, xs, rfl, hs, hr⟩ := dpTup hd
    exact ⟨_, ds.length, rfl, .inr ⟨xs, hs, (dpsLen hr).symm⟩, q H2 b⟩
theorem edLenS {w : Str} (h : EvD K te σ H (.str w)) (hl : w.length ≤ 100000) : EvD K (tCB (lenR K) (tCons te tNil)) σ H (.int w.length) := edI fun H1 a Q q =>
  h H1 a _ fun v H2 b hd => by
    have e := dpStr hd
    subst e
    exact ⟨_, w.length, rfl, ⟨sz_of hl, rfl⟩, q H2 b⟩
/-- isinstance of a built-in class -/
def tyD : PyData → String
  | .none => "NoneType"
  | .bool _ => "bool"
  | .int _ => "int"
  | .str _ => "str"
  | .list _ => "list"
  | .tuple _ => "tuple"
  | .dict _ => "dict"
theorem tyxOf (h : Dp K H v d) : TyX K H v (.type (tyD d)) := by
  cases h with
  | non => exact .base .non
  | bl b => exact .base (.bl b)
  | int i => exact .base (.int i)
  | str x => exact .base (.str x)
  | lst s _ =>
    rcases s with (s | ⟨o, s⟩) | ⟨o, its, n, s, c, _⟩
    · exact .base (.lst s)
    · exact .base (.frz s)
    · exact .kList s c
  | tup s _ =>
    rcases s with (s | ⟨o, s⟩) | ⟨o, its, n, s, c, _⟩
    · exact .base (.tup s)
    · exact .fTuple s
    · exact .kTuple s c
end
end Dt

/-! What is walked, by its data; comprehensions, calls, statements. -/
namespace Dt
open PySem L2 Evl

/-- the walk J gives ds, whatever the heap has grown to -/
def Yl (K : PySem.W.Frag) (J : It) (H0 : Hp) (ds : List PyData) : Prop :=
  ∀ H, Ex H0 H → ∀ i : Nat, (∀ d, ds[i]? = some d → J.go i H ∧ ∀ x H', J.yld i H x H' → Ex H H' ∧ Dp K H' x d) ∧ (ds[i]? = none → J.stop i H)
def IdD (K : PySem.W.Frag) (wi : TI) (σ : L2.St) (H : Hp) (ds : List PyData) : Prop := ∀ H1, Ex H H1 → ∀ R : It → Hp → Prop, (∀ J H2, Ex H1 H2 → Yl K J H2 ds → R J H2) → wi σ H1 R

section
variable {K : PySem.W.Frag} {σ : L2.St} {H H' : Hp} {ta tb te tx : TE} {t u : TT} {x y z v : V} {r : R2} {d e : PyData} {wi : TI} {g : TG}
theorem idIs {ds es : List PyData} (h : IdD K wi σ H ds) (q : ds = es) : IdD K wi σ H es := by rw [← q]; exact h
theorem ylL {p : Addr} {xs : List V} {ds : List PyData} (hs : SqL K H p xs) (hr : DpAll K H xs ds) : Yl K (Itl K p) H ds := fun H3 c i => by
  refine ⟨fun d hi => ?_, fun hi => ?_⟩
  · obtain ⟨v, h1, h2⟩ := dpsAt hr hi
    refine ⟨⟨xs, v, ex_l c hs, h1⟩, fun x H' hy => ?_⟩
    obtain ⟨rfl, hy⟩ := hy
    have e1 := (hy xs (ex_l c hs)).symm.trans h1
    cases e1
    exact ⟨Ex.refl _, dpUp c h2⟩
  · refine ⟨xs, ex_l c hs, ?_⟩
    rw [dpsLen hr]
    exact List.getElem?_eq_none_iff.mp hi
theorem ylT {p : Addr} {xs : List V} {ds : List PyData} (hs : SqT K H p xs) (hr : DpAll K H xs ds) : Yl K (Itt K p) H ds := fun H3 c i => by
  refine ⟨fun d hi => ?_, fun hi => ?_⟩
  · obtain ⟨v, h1, h2⟩ := dpsAt hr hi
    refine ⟨⟨xs, v, ex_t c hs, h1⟩, fun x H' hy => ?_⟩
    obtain ⟨rfl, hy⟩ := hy
    have e1 := (hy xs (ex_t c hs)).symm.trans h1
    cases e1
    exact ⟨Ex.refl _, dpUp c h2⟩
  · refine ⟨xs, ex_t c hs, ?_⟩
    rw [dpsLen hr]
    exact List.getElem?_eq_none_iff.mp hi
theorem idL {tl : TE} {ds : List PyData} (h : EvD K tl σ H (.list ds)) : IdD K (iList K tl) σ H ds := fun H1 a R q =>
  h H1 a _ fun v H2 b hd => by
    obtain ⟨p, xs, rfl, hs, hr⟩ := dpLst hd
    exact ⟨p, rfl, ⟨xs, hs⟩, q _ _ b (ylL hs hr)⟩
theorem idT {tl : TE} {ds : List PyData} (h : EvD K tl σ H (.tuple ds)) : IdD K (iTup K tl) σ H ds := fun H1 a R q =>
  h H1 a _ fun v H2 b hd => by
    obtain ⟨p, xs, rfl, hs, hr⟩ := dpTup hd
    exact ⟨p, rfl, ⟨xs, hs⟩, q _ _ b (ylT hs hr)⟩
theorem evA1 {ta : TA} {i : Int} (h : EvAD K ta σ H [.int i]) : EvA ta σ H [.int i] := fun H1 a Q q => h H1 a Q fun vs H2 b hd => by
  obtain ⟨v, rfl, h1⟩ := dps1 hd
  rw [dpInt h1]
  exact q H2 b
theorem evA2 {ta : TA} {i j : Int} (h : EvAD K ta σ H [.int i, .int j]) : EvA ta σ H [.int i, .int j] := fun H1 a Q q => h H1 a Q fun vs H2 b hd => by
  obtain ⟨v, w, rfl, h1, h2⟩ := dps2 hd
  rw [dpInt h1, dpInt h2]
  exact q H2 b
theorem evA3 {ta : TA} {i j k : Int} (h : EvAD K ta σ H [.int i, .int j, .int k]) : EvA ta σ H [.int i, .int j, .int k] := fun H1 a Q q => h H1 a Q fun vs H2 b hd => by
  obtain ⟨v, w, x, rfl, h1, h2, h3⟩ := dps3 hd
  rw [dpInt h1, dpInt h2, dpInt h3]
  exact q H2 b
theorem ylRange {lo : Int} {n : Nat} : Yl K (Itr lo n) H ((List.range n).map fun i => .int (lo + (i : Nat))) := fun H3 c i => by
  refine ⟨fun d hi => ?_, fun hi => ?_⟩
  · rw [List.getElem?_map] at hi
    by_cases h : i < n
    · rw [List.getElem?_range h] at hi
      refine ⟨h, fun x H' hy => ?_⟩
      obtain ⟨rfl, rfl⟩ := hy
      cases hi
      exact ⟨Ex.refl _, .int _⟩
    · rw [List.getElem?_eq_none (by simpa using h)] at hi
      cases hi
  · rw [List.getElem?_eq_none_iff, List.length_map, List.length_range] at hi
    exact hi
theorem idR1 {ta : TA} {n : Int} (h : EvAD K ta σ H [.int n]) (h0 : -100000 ≤ n) (h1 : n ≤ 100000) : IdD K (iRng1 ta) σ H ((List.range n.toNat).map fun i => .int (i : Nat)) := fun H1 a R q =>
  evA1 h H1 a _ fun H2 b => ⟨n, rfl, by omega, by omega, q _ _ b (by
    have y := ylRange (K := K) (H := H2) (lo := 0) (n := n.toNat)
    have e : (fun i : Nat => PyData.int (0 + (i : Int))) = fun i : Nat => PyData.int (i : Int) := by funext i; rw [Int.zero_add]
    rw [e] at y
    exact y)⟩
theorem idR2 {ta : TA} {i j : Int} (h : EvAD K ta σ H [.int i, .int j]) (h0 : -100000 ≤ i ∧ i ≤ 100000 ∧ -100000 ≤ j ∧ j ≤ 100000) : IdD K (iRng2 ta) σ H ((List.range (j - i).toNat).map fun k => .int (i + (k : Nat))) := fun H1 a R q =>
  evA2 h H1 a _ fun H2 b => ⟨i, j, rfl, by omega, q _ _ b ylRange⟩
theorem idR3 {ta : TA} {i j c : Int} {n : Nat} (h : EvAD K ta σ H [.int i, .int j, .int c]) (hr : RgC i j c n) : IdD K (iRng3 ta) σ H ((List.range n).map fun k => .int (i + (k : Nat) * c)) := fun H1 a R q =>
  evA3 h H1 a _ fun H2 b => ⟨i, j, c, n, rfl, hr, q _ _ b fun H3 e m => by
    refine ⟨fun d hi => ?_, fun hi => ?_⟩
    · rw [List.getElem?_map] at hi
      by_cases h : m < n
      · rw [List.getElem?_range h] at hi
        refine ⟨h, fun x H' hy => ?_⟩
        obtain ⟨rfl, rfl⟩ := hy
        cases hi
        exact ⟨Ex.refl _, .int _⟩
      · rw [List.getElem?_eq_none (by simpa using h)] at hi
        cases hi
    · rw [List.getElem?_eq_none_iff, List.length_map, List.length_range] at hi
      exact hi⟩
theorem idStr {w : Str} (h : EvD K te σ H (.str w)) : IdD K (iStr te) σ H (w.cps.toList.map fun c => .str ⟨#[c]⟩) := fun H1 a R q =>
  evS h H1 a _ fun H2 b => ⟨w, rfl, q _ _ b fun H3 e i => by
    refine ⟨fun d hi => ?_, fun hi => ?_⟩
    · rw [List.getElem?_map, Array.getElem?_toList] at hi
      cases hc : w.cps[i]? with
      | none => rw [hc] at hi; cases hi
      | some c =>
        rw [hc] at hi
        cases hi
        refine ⟨?_, fun x H' hy => ?_⟩
        · show i < w.cps.size
          rw [Array.getElem?_eq_some_iff] at hc
          exact hc.1
        · obtain ⟨rfl, c', h1, rfl⟩ := hy
          rw [hc] at h1
          cases h1
          exact ⟨Ex.refl _, .str _⟩
    · rw [List.getElem?_eq_none_iff, List.length_map, Array.length_toList] at hi
      exact hi⟩
theorem idEnum {ta : TA} {ds : List PyData} (h : EvAD K ta σ H [.list ds]) : IdD K (iEnum K ta) σ H (ds.mapIdx fun i d => .tuple [.int (i : Nat), d]) := fun H1 a R q =>
  h H1 a _ fun vs H2 b hd => by
    obtain ⟨v, rfl, h1⟩ := dps1 hd
    obtain ⟨p, xs, rfl, hs, hr⟩ := dpLst h1
    refine ⟨p, xs, rfl, hs, q _ _ b fun H3 c i => ⟨fun d hi => ?_, fun hi => ?_⟩⟩
    · rw [List.getElem?_mapIdx] at hi
      cases hx : ds[i]? with
      | none => rw [hx] at hi; cases hi
      | some d0 =>
        rw [hx] at hi
        cases hi
        obtain ⟨v, h1, h2⟩ := dpsAt hr hx
        refine ⟨⟨xs, v, ex_l c hs, h1⟩, fun x H' hy => ?_⟩
        obtain ⟨T, x1, rfl, hT, rfl, hy⟩ := hy
        have e1 := (hy xs (ex_l c hs)).symm.trans h1
        cases e1
        exact ⟨Ex.new hT, dpOfT upd_same (.cons (.int _) (.cons (dpUp (c.trans (Ex.new hT)) h2) .nil))⟩
    · refine ⟨xs, ex_l c hs, ?_⟩
      rw [List.getElem?_eq_none_iff, List.length_mapIdx] at hi
      rw [dpsLen hr]
      exact hi
theorem idZip {ta : TA} {ds es : List PyData} (h : EvAD K ta σ H [.list ds, .list es]) : IdD K (iZip K ta) σ H (List.zipWith (fun a b => .tuple [a, b]) ds es) := fun H1 a R q =>
  h H1 a _ fun vs H2 b hd => by
    obtain ⟨v, w, rfl, h1, h2⟩ := dps2 hd
    obtain ⟨p, xs, rfl, hs, hr⟩ := dpLst h1
    obtain ⟨p', ys, rfl, hs', hr'⟩ := dpLst h2
    refine ⟨p, p', xs, ys, rfl, hs, hs', q _ _ b fun H3 c i => ⟨fun d hi => ?_, fun hi => ?_⟩⟩
    · rw [List.getElem?_zipWith] at hi
      cases hx : ds[i]? with
      | none => rw [hx] at hi; simp at hi
      | some d0 =>
        cases hx' : es[i]? with
        | none => rw [hx, hx'] at hi; simp at hi
        | some e0 =>
          rw [hx, hx'] at hi
          cases hi
          obtain ⟨v, k1, k2⟩ := dpsAt hr hx
          obtain ⟨v', k1', k2'⟩ := dpsAt hr' hx'
          refine ⟨⟨xs, ys, v, v', ex_l c hs, ex_l c hs', k1, k1'⟩, fun x H' hy => ?_⟩
          obtain ⟨T, x1, y1, rfl, hT, rfl, hy, hy'⟩ := hy
          have e1 := (hy xs (ex_l c hs)).symm.trans k1
          have e2 := (hy' ys (ex_l c hs')).symm.trans k1'
          cases e1
          cases e2
          exact ⟨Ex.new hT, dpOfT upd_same (.cons (dpUp (c.trans (Ex.new hT)) k2) (.cons (dpUp (c.trans (Ex.new hT)) k2') .nil))⟩
    · refine ⟨xs, ys, ex_l c hs, ex_l c hs', ?_⟩
      rw [List.getElem?_eq_none_iff, List.length_zipWith] at hi
      rw [dpsLen hr, dpsLen hr']
      omega

/-- a comprehension -/
theorem enLc {α : Type} (L : List α) (enc : α → PyData) (f : α → Bool) (vd : α → PyData) {vs : List Nat} (h : IdD K wi σ H (L.map enc)) (hz : L.length ≤ 100000) (hn : ∀ a ∈ L, f a = true → noL (vd a) = true)
    (hb : ∀ a ∈ L, ∀ H1 x, Ex H H1 → Dp K H1 x (enc a) → ∃ σ2, (∀ Q : L2.St → Hp → Prop, Q σ2 H1 → g x (wipe σ vs) H1 Q) ∧ wipe σ2 vs = wipe σ vs ∧ EvT t σ2 H1 (f a) ∧ (f a = true → EvD K te σ2 H1 (vd a))) :
    EvN K (tLc wi g t te vs) σ H ((L.filter f).map vd) := fun H1 e Q q => h H1 e _ fun J H2 e2 yl => by
  intro D hD
  have hn2 : ∀ i, noLs (((L.take i).filter f).map vd) = true := fun i => noLs_map fun a ha => by
    obtain ⟨h1, h2⟩ := List.mem_filter.mp ha
    exact hn a (List.mem_of_mem_take h1) h2
  have hlen : ∀ i, (((L.take i).filter f).map vd).length ≤ L.length := fun i => by
    rw [List.length_map]
    have k := List.length_filter_le f (L.take i)
    have k2 := List.length_take_le' i L
    omega
  refine ⟨fun i m H' => m = L.length - i ∧ i ≤ L.length ∧ Ex H2 H' ∧ ∃ acc, H' D = some (.lst acc) ∧ DpAll K H' acc (((L.take i).filter f).map vd), ⟨L.length, by omega, Nat.zero_le _, Ex.new hD, [], upd_same, .nil⟩, ?_⟩
  rintro i m H' ⟨rfl, hi, ex, acc, hacc, hd⟩
  obtain ⟨y1, y2⟩ := yl H' ex i
  by_cases hlt : i < L.length
  · have hget : L[i]? = some L[i] := List.getElem?_eq_getElem hlt
    have hm : L[i] ∈ L := List.getElem_mem hlt
    have tk : L.take (i + 1) = L.take i ++ [L[i]] := by rw [List.take_add_one, hget]; rfl
    obtain ⟨go, yy⟩ := y1 (enc L[i]) (by rw [List.getElem?_map, hget]; rfl)
    refine .inr ⟨go, _, fun H3 w => ⟨L.length - (i + 1), by omega, w⟩, fun x H3 hy => ?_⟩
    obtain ⟨ex3, hx⟩ := yy x H3 hy
    obtain ⟨σ2, hg, hw, ht, he⟩ := hb L[i] hm H3 x (((e.trans e2).trans ex).trans ex3) hx
    refine hg _ ⟨hw, ht H3 (Ex.refl _) _ fun H4 ex4 => ?_⟩
    have ex24 : Ex H2 H4 := (ex.trans ex3).trans ex4
    cases hf : f L[i] with
    | false =>
      refine ⟨rfl, hlt, ex24, acc, ex4 _ _ (ex3 _ _ hacc), ?_⟩
      rw [tk, List.filter_append, List.filter_cons, if_neg (by rw [hf]; decide), List.filter_nil, List.append_nil]
      exact dpsUp (ex3.trans ex4) hd
    | true =>
      refine he hf H4 ex4 _ fun y H5 ex5 hy5 => ?_
      have hacc5 : H5 D = some (.lst acc) := ex5 _ _ (ex4 _ _ (ex3 _ _ hacc))
      have hd5 := dpsUp ((ex3.trans ex4).trans ex5) hd
      refine ⟨acc, hacc5, sz_lt (by have k := hlen i; rw [dpsLen hd5]; have k3 : (((L.take i).filter f).map vd).length ≤ i := by
                                      rw [List.length_map]
                                      exact Nat.le_trans (List.length_filter_le _ _) (List.length_take_le _ _)
                                    omega), rfl, hlt, ?_, acc ++ [y], upd_same, ?_⟩
      · exact (ex24.trans ex5).mut hD
      · rw [tk, List.filter_append, List.filter_cons, if_pos hf, List.filter_nil, List.map_append]
        exact dpsSnoc (dpsTups (tupsMut hacc5) hd5 (hn2 i)) (dpTups (tupsMut hacc5) hy5 (hn _ hm hf))
  · have ei : i = L.length := by omega
    refine .inl ⟨y2 (by rw [List.getElem?_map, List.getElem?_eq_none (by omega)]; rfl), ?_⟩
    rw [ei, List.take_length] at hd
    exact q D acc H' (fresh_back e2 hD) (e2.trans ex) hacc hd
/-- .. without a test -/
theorem enLcA {α : Type} (L : List α) (enc : α → PyData) (vd : α → PyData) {vs : List Nat} (h : IdD K wi σ H (L.map enc)) (hz : L.length ≤ 100000) (hn : ∀ a ∈ L, noL (vd a) = true)
    (hb : ∀ a ∈ L, ∀ H1 x, Ex H H1 → Dp K H1 x (enc a) → ∃ σ2, (∀ Q : L2.St → Hp → Prop, Q σ2 H1 → g x (wipe σ vs) H1 Q) ∧ wipe σ2 vs = wipe σ vs ∧ EvD K te σ2 H1 (vd a)) :
    EvN K (tLc wi g tYes te vs) σ H (L.map vd) := by
  have k := enLc (t := tYes) L enc (fun _ => true) vd h hz (fun a ha _ => hn a ha) (fun a ha H1 x e hx => by
    obtain ⟨σ2, h1, h2, h3⟩ := hb a ha H1 x e hx
    exact ⟨σ2, h1, h2, fun H2 _ _ q => q H2 (Ex.refl H2), fun _ => h3⟩)
  have e : L.filter (fun _ => true) = L := List.filter_eq_self.mpr fun _ _ => rfl
  rw [e] at k
  exact k
/-- targets: a name; a tuple of two names, of three -/
theorem tgName {j : Nat} {x : V} {σ1 : L2.St} : ∀ Q : L2.St → Hp → Prop, Q (σ1.set j (some x)) H → gName j x σ1 H Q := fun _ q => q
theorem tgTup2 {x : V} {d1 d2 : PyData} {i j : Nat} {σ1 : L2.St} (h : Dp K H x (.tuple [d1, d2])) : ∃ v w, Dp K H v d1 ∧ Dp K H w d2 ∧ ∀ Q : L2.St → Hp → Prop, Q ((σ1.set i (some v)).set j (some w)) H → gTup K 2 (gCons (gName i) (gCons (gName j) gNil)) x σ1 H Q := by
  obtain ⟨a, xs, rfl, hs, hr⟩ := dpTup h
  obtain ⟨v, w, rfl, h1, h2⟩ := dps2 hr
  exact ⟨v, w, h1, h2, fun Q q => ⟨a, _, rfl, hs, rfl, v, _, rfl, w, _, rfl, rfl, q⟩⟩
theorem tgTup3 {x : V} {d1 d2 d3 : PyData} {i j k : Nat} {σ1 : L2.St} (h : Dp K H x (.tuple [d1, d2, d3])) : ∃ v w z, Dp K H v d1 ∧ Dp K H w d2 ∧ Dp K H z d3 ∧ ∀ Q : L2.St → Hp → Prop, Q (((σ1.set i (some v)).set j (some w)).set k (some z)) H → gTup K 3 (gCons (gName i) (gCons (gName j) (gCons (gName k) gNil))) x σ1 H Q := by
  obtain ⟨a, xs, rfl, hs, hr⟩ := dpTup h
  obtain ⟨v, w, z, rfl, h1, h2, h3⟩ := dps3 hr
  exact ⟨v, w, z, h1, h2, h3, fun Q q => ⟨a, _, rfl, hs, rfl, v, _, rfl, w, _, rfl, z, _, rfl, rfl, q⟩⟩

/-! calls -/
def PrD (K : PySem.W.Frag) (P : List PyData → PyData → Prop) : Sp := fun vs H Q _ => ∃ ds d, DpAll K H vs ds ∧ P ds d ∧ ∀ v H', Ex H H' → Dp K H' v d → Q v H'
def PrN (K : PySem.W.Frag) (P : List PyData → List PyData → Prop) : Sp := fun vs H Q _ => ∃ ds es, DpAll K H vs ds ∧ P ds es ∧ ∀ p xs H', H p = none → Ex H H' → H' p = some (.lst xs) → DpAll K H' xs es → Q (.ref p) H'
theorem edCall {P : List PyData → PyData → Prop} {E : XK} {ta : TA} {ds : List PyData} (h : EvAD K ta σ H ds) (hp : P ds d) : EvD K (tCall (PrD K P) [] E ta) σ H d := fun H1 a Q q =>
  h H1 a _ fun vs H2 b hd => ⟨ds, d, by rw [List.append_nil]; exact hd, hp, fun v H3 c hv => q v H3 (b.trans c) hv⟩
theorem enCall {P : List PyData → List PyData → Prop} {E : XK} {ta : TA} {ds es : List PyData} (h : EvAD K ta σ H ds) (hp : P ds es) : EvN K (tCall (PrN K P) [] E ta) σ H es := fun H1 a Q q =>
  h H1 a _ fun vs H2 b hd => ⟨ds, es, by rw [List.append_nil]; exact hd, hp, fun p xs H3 h1 c h2 h3 => q p xs H3 (fresh_back b h1) (b.trans c) h2 h3⟩
theorem prdLen {P : List PyData → PyData → Prop} {n : Nat} (hP : ∀ ds d, P ds d → ds.length = n) : ∀ vs H Q E, PrD K P vs H Q E → vs.length = n := fun vs H Q E ⟨ds, d, h, p, _⟩ => (dpsLen h).trans (hP ds d p)
theorem prnLen {P : List PyData → List PyData → Prop} {n : Nat} (hP : ∀ ds d, P ds d → ds.length = n) : ∀ vs H Q E, PrN K P vs H Q E → vs.length = n := fun vs H Q E ⟨ds, d, h, p, _⟩ => (dpsLen h).trans (hP ds d p)
/-- isinstance | all | list | sum | join -/
theorem edIsi {n : String} {b : Bool} (h : EvD K te σ H d) (hk : kitB (tyD d) n = some b) : EvD K (tCB (rIsi K) (tCons te (tCons (tC (.ty n)) tNil))) σ H (.bool b) := edB fun H1 a Q q =>
  h H1 a _ fun v H2 c hv => ⟨v, .ty n, _, _, b, rfl, .ty n, tyxOf hv, kit_ty hk, q H2 c⟩
theorem edAll {bs : List Bool} (h : EvD K te σ H (.list (bs.map .bool))) : EvD K (tCB (rAll K) (tCons te tNil)) σ H (.bool (bs.all id)) := edB fun H1 a Q q =>
  h H1 a _ fun v H2 c hv => by
    obtain ⟨p, xs, rfl, hs, hr⟩ := dpLst hv
    have e := fvAll (ws := bs.map V.bl) (by rw [List.map_map, List.map_map]; rfl) hr
    subst e
    exact ⟨p, bs, rfl, hs, q H2 c⟩
theorem edSum {ns : List Int} (h : EvD K te σ H (.list (ns.map .int))) : EvD K (tCB (rSum K) (tCons te tNil)) σ H (.int ns.sum) := edI fun H1 a Q q =>
  h H1 a _ fun v H2 c hv => by
    obtain ⟨p, xs, rfl, hs, hr⟩ := dpLst hv
    have e := fvAll (ws := ns.map V.int) (by rw [List.map_map, List.map_map]; rfl) hr
    subst e
    exact ⟨p, ns, rfl, hs, q H2 c⟩
theorem enList {ds : List PyData} (h : EvD K te σ H (.list ds)) : EvN K (tCB (rListS K) (tCons te tNil)) σ H ds := fun H1 a Q q =>
  h H1 a _ fun v H2 c hv => by
    obtain ⟨p, xs, rfl, hs, hr⟩ := dpLst hv
    exact ⟨p, xs, rfl, .inl hs, fun l hl => q l _ _ (fresh_back c hl) (c.trans (Ex.new hl)) upd_same (dpsUp (Ex.new hl) hr)⟩
def rJoin (K : PySem.W.Frag) : V → List V → Hp → VK → Prop := fun x xs H Q => ∃ a p, ∃ ys : List Str, x = .str a ∧ xs = [.ref p] ∧ (SqL K H p (ys.map V.str) ∨ SqT K H p (ys.map V.str)) ∧ (ys.map (·.length)).sum + ys.length * a.length ≤ 16777216 ∧ Q (.str (Txt.join a ys)) H
theorem edJoin {a : Str} {ys : List Str} (ha : EvD K ta σ H (.str a)) (h : EvD K tb σ H (.list (ys.map .str))) (hl : (ys.map (·.length)).sum + ys.length * a.length ≤ 16777216) : EvD K (tM1 (rJoin K) ta tb) σ H (.str (Txt.join a ys)) := edS fun H1 e Q q =>
  ha H1 e _ fun v H2 b hv => ⟨⟨a, dpStr hv⟩, h H2 (e.trans b) _ fun w H3 c hw => by
    obtain ⟨p, xs, rfl, hs, hr⟩ := dpLst hw
    have e := fvAll (ws := ys.map V.str) (by rw [List.map_map, List.map_map]; rfl) hr
    subst e
    exact ⟨a, p, ys, dpStr hv, rfl, .inl hs, hl, q H3 (b.trans c)⟩⟩
def rAddS : R2 := fun x y H Q => ∃ i j, x = .str i ∧ y = .str j ∧ i.length + j.length ≤ sizeLine ∧ Q (.str (i ++ j)) H
theorem edAddS {a b : Str} (ha : EvD K ta σ H (.str a)) (hb : EvD K tb σ H (.str b)) (hl : a.length + b.length ≤ 100000) : EvD K (tOp rAddS ta tb) σ H (.str (a ++ b)) :=
  edS fun H1 e Q q => ha H1 e _ fun v H2 k hv => hb H2 (e.trans k) _ fun w H3 c hw => ⟨a, b, dpStr hv, dpStr hw, sz_of hl, q H3 (k.trans c)⟩
theorem edCutS {tl th : TO} {a : Str} {lo hi : Option Int} (h : EvD K te σ H (.str a)) (h1 : EvO tl σ H lo) (h2 : EvO th σ H hi) (hl : a.length ≤ 100000) : EvD K (tSl rSlS te tl th) σ H (.str (cutS a lo hi)) := edS fun H1 e Q q =>
  h H1 e _ fun v H2 b hv => h1 H2 (e.trans b) _ fun H3 c => h2 H3 ((e.trans b).trans c) _ fun H4 k => ⟨a, dpStr hv, sz_of hl, q H4 ((b.trans c).trans k)⟩
theorem eoI {i : Int} (h : EvD K te σ H (.int i)) : EvO (tPart te) σ H (some i) := eo_some (evI h)

/-! statements -/
variable {D : Ends} {tz tw : TS}
theorem qAsg {i : Nat} (h : EvD K te σ H d) (k : ∀ v H1, Ex H H1 → Dp K H1 v d → tz D (σ.set i (some v)) H1) : tSeq (tAsg te (gName i)) tz D σ H := h H (Ex.refl H) _ fun v H1 e hv => k v H1 e hv
theorem qAsgN {i : Nat} {ds : List PyData} (h : EvN K te σ H ds) (k : ∀ p xs H1, H p = none → Ex H H1 → H1 p = some (.lst xs) → DpAll K H1 xs ds → tz D (σ.set i (some (.ref p))) H1) : tSeq (tAsg te (gName i)) tz D σ H := h H (Ex.refl H) _ fun p xs H1 hp e h1 h2 => k p xs H1 hp e h1 h2
theorem sAsg {i : Nat} (h : EvD K te σ H d) (k : ∀ v H1, Ex H H1 → Dp K H1 v d → D.nx (σ.set i (some v)) H1) : tAsg te (gName i) D σ H := h H (Ex.refl H) _ fun v H1 e hv => k v H1 e hv
theorem sRet (h : EvD K te σ H d) (k : ∀ v H1, Ex H H1 → Dp K H1 v d → D.rt v H1) : tRet te D σ H := h H (Ex.refl H) _ k
theorem sRetN {ds : List PyData} (h : EvN K te σ H ds) (k : ∀ p xs H1, H p = none → Ex H H1 → H1 p = some (.lst xs) → DpAll K H1 xs ds → D.rt (.ref p) H1) : tRet te D σ H := h H (Ex.refl H) _ k
theorem qTup3 {i j k : Nat} {d1 d2 d3 : PyData} (h : EvD K te σ H (.tuple [d1, d2, d3])) (q : ∀ v w z H1, Ex H H1 → Dp K H1 v d1 → Dp K H1 w d2 → Dp K H1 z d3 → tz D (((σ.set i (some v)).set j (some w)).set k (some z)) H1) :
    tSeq (tAsg te (gTup K 3 (gCons (gName i) (gCons (gName j) (gCons (gName k) gNil))))) tz D σ H := h H (Ex.refl H) _ fun v H1 e hv => by
  obtain ⟨a, b, c, h1, h2, h3, hh⟩ := tgTup3 (σ1 := σ) (i := i) (j := j) (k := k) hv
  exact hh _ (q a b c H1 e h1 h2 h3)
/-- a for that leaves all objects as they are, the slots by a word -/
theorem sFor {α : Type} {tu : TS} (L : List α) (enc : α → PyData) (h : IdD K wi σ H (L.map enc)) (Iv : Nat → L2.St → Prop) (h0 : Iv 0 σ)
    (hb : ∀ H0, Ex H H0 → ∀ i a, L[i]? = some a → ∀ σ1 H1 x, Iv i σ1 → Ex H0 H1 → Dp K H1 x (enc a) → g x σ1 H1 fun σ2 H2 => tu { D with nx := fun σ' H' => Iv (i + 1) σ' ∧ Ex H0 H', ct := fun σ' H' => Iv (i + 1) σ' ∧ Ex H0 H', bk := D.nx } σ2 H2)
    (hd : ∀ σ1 H1, Iv L.length σ1 → Ex H H1 → D.nx σ1 H1) : tFor wi g tu D σ H := h H (Ex.refl H) _ fun J H1 e yl => by
  refine ⟨fun i m σ' H' => m = L.length - i ∧ i ≤ L.length ∧ Iv i σ' ∧ Ex H1 H', ⟨L.length, by omega, Nat.zero_le _, h0, Ex.refl _⟩, ?_⟩
  rintro i m σ1 H' ⟨rfl, hi, iv, ex⟩
  obtain ⟨y1, y2⟩ := yl H' ex i
  by_cases hlt : i < L.length
  · have hget : L[i]? = some L[i] := List.getElem?_eq_getElem hlt
    obtain ⟨go, yy⟩ := y1 (enc L[i]) (by rw [List.getElem?_map, hget]; rfl)
    refine .inr ⟨go, fun σ' H2 => Iv (i + 1) σ' ∧ Ex H1 H2, fun σ' H2 w => ⟨L.length - (i + 1), by omega, rfl, hlt, w.1, w.2⟩, fun x H2 hy => ?_⟩
    obtain ⟨ex2, hx⟩ := yy x H2 hy
    exact hb H1 e i L[i] hget σ1 H2 x iv (ex.trans ex2) hx
  · have ei : i = L.length := by omega
    refine .inl ⟨y2 (by rw [List.getElem?_map, List.getElem?_eq_none (by omega)]; rfl), ?_⟩
    rw [ei] at iv
    exact hd σ1 H' iv (e.trans ex)
end
end Dt

/-! Triangles, their small ones, in plain Lean. -/
namespace Dt
open PySem L2 Evl

def Code (c : Nat) : Prop := c = 97 ∨ c = 98 ∨ c = 99
structure Tri (n : Nat) (g : Nat → Nat → Nat) : Prop where
  lo : 2 ≤ n
  hi : n ≤ 100
  ok : ∀ r p, Code (g r p)
def sgn (c : Nat) : Str := ⟨#[c]⟩
def rowS (n : Nat) (g : Nat → Nat → Nat) (r : Nat) : Str := ⟨((List.range (n - r)).map (g r)).toArray⟩
def triD (n : Nat) (g : Nat → Nat → Nat) : List PyData := (List.range n).map fun r => .str (rowS n g r)
theorem rowLen (n : Nat) (g : Nat → Nat → Nat) (r : Nat) : (rowS n g r).length = n - r := by
  show ((List.range (n - r)).map (g r)).toArray.size = n - r
  rw [List.size_toArray, List.length_map, List.length_range]
theorem rowCps (n : Nat) (g : Nat → Nat → Nat) (r : Nat) : (rowS n g r).cps.toList = (List.range (n - r)).map (g r) := rfl
theorem atNat {α : Type} {l : List α} {j : Nat} {x : α} (h : l[j]? = some x) : atI l (j : Int) = some x := atI_nat h
theorem triAt {n : Nat} {g : Nat → Nat → Nat} {r : Nat} (h : r < n) : atI (triD n g) (r : Int) = some (.str (rowS n g r)) := by
  refine atNat ?_
  unfold triD
  rw [List.getElem?_map, List.getElem?_range h]
  rfl
theorem rowAt {n : Nat} {g : Nat → Nat → Nat} {r p : Nat} (h : p < n - r) : atI (rowS n g r).cps.toList (p : Int) = some (g r p) := by
  refine atNat ?_
  rw [rowCps, List.getElem?_map, List.getElem?_range h]
  rfl
theorem triNoL (n : Nat) (g : Nat → Nat → Nat) : noLs (triD n g) = true := noLs_map fun _ _ => by rw [noL]
theorem triLen (n : Nat) (g : Nat → Nat → Nat) : (triD n g).length = n := by unfold triD; rw [List.length_map, List.length_range]

/-! steps and turns -/
def eg (x y : Nat) : Int := if x = 97 ∧ y = 98 then 1 else if x = 98 ∧ y = 97 then -1 else 0
def turn3 (a b c : Nat) : Int := eg a b + eg b c + eg c a
def crn (r p u : Nat) : List (Nat × Nat) := if u = 1 then [(r, p), (r, p + 1), (r + 1, p)] else [(r, p + 1), (r + 1, p + 1), (r + 1, p)]
def trn (g : Nat → Nat → Nat) (s : Nat × Nat × Nat) : Int :=
  if s.2.2 = 1 then turn3 (g s.1 s.2.1) (g s.1 (s.2.1 + 1)) (g (s.1 + 1) s.2.1) else turn3 (g s.1 (s.2.1 + 1)) (g (s.1 + 1) (s.2.1 + 1)) (g (s.1 + 1) s.2.1)
def isSm (n : Nat) (s : Nat × Nat × Nat) : Prop := (s.2.2 = 1 ∧ s.1 + s.2.1 + 1 < n) ∨ (s.2.2 = 0 ∧ s.1 + s.2.1 + 2 < n)
def smD (s : Nat × Nat × Nat) : PyData := .tuple [.int (s.1 : Nat), .int (s.2.1 : Nat), .int (s.2.2 : Nat)]
def spD (s : Nat × Nat) : PyData := .tuple [.int (s.1 : Nat), .int (s.2 : Nat)]
/-- the small triangles at a place, in a row, all -/
def smAt (n r p : Nat) : List (Nat × Nat × Nat) := if r + p + 2 < n then [(r, p, 0), (r, p, 1)] else [(r, p, 1)]
def smRow (n r : Nat) : List (Nat × Nat × Nat) := (List.range (n - r - 1)).flatMap (smAt n r)
def smAll (n : Nat) : List (Nat × Nat × Nat) := (List.range (n - 1)).flatMap (smRow n)
theorem smAll_is {n : Nat} {s : Nat × Nat × Nat} (h : s ∈ smAll n) : isSm n s := by
  obtain ⟨r, hr, h⟩ := List.mem_flatMap.mp h
  obtain ⟨p, hp, h⟩ := List.mem_flatMap.mp h
  rw [List.mem_range] at hr hp
  unfold smAt at h
  split at h
  · rcases List.mem_cons.mp h with rfl | h
    · exact .inr ⟨rfl, by assumption⟩
    · rw [List.mem_singleton] at h
      subst h
      exact .inl ⟨rfl, by show r + p + 1 < n; omega⟩
  · rw [List.mem_singleton] at h
    subst h
    exact .inl ⟨rfl, by show r + p + 1 < n; omega⟩

/-! the count -/
/-- along row r from place 0 on, m steps -/
def along (g : Nat → Nat → Nat) (r m : Nat) : Int := ((List.range m).map fun p => eg (g r p) (g r (p + 1))).sum
theorem along_succ (g : Nat → Nat → Nat) (r m : Nat) : along g r (m + 1) = along g r m + eg (g r m) (g r (m + 1)) := by
  unfold along
  rw [List.range_succ, List.map_append, List.sum_append]
  show _ + (eg (g r m) (g r (m + 1)) + 0) = _
  omega
theorem eg_anti (x y : Nat) : eg x y = - eg y x := by
  unfold eg
  by_cases h1 : x = 97 ∧ y = 98
  · rw [if_pos h1, if_neg (by omega), if_pos (by omega)]
    rfl
  · rw [if_neg h1]
    by_cases h2 : x = 98 ∧ y = 97
    · rw [if_pos h2, if_pos (by omega)]
    · rw [if_neg h2, if_neg (by omega), if_neg (by omega)]
      rfl
def smSum (g : Nat → Nat → Nat) (l : List (Nat × Nat × Nat)) : Int := (l.map (trn g)).sum
theorem smSum_app (g : Nat → Nat → Nat) (l m : List (Nat × Nat × Nat)) : smSum g (l ++ m) = smSum g l + smSum g m := by
  unfold smSum
  rw [List.map_append, List.sum_append]
/-- the strip from place 0 on, k upright ones with the turned ones between them and, behind the last, one more where it is one -/
theorem strip (n : Nat) (g : Nat → Nat → Nat) (r : Nat) : ∀ k, k ≤ n - r - 1 → smSum g ((List.range k).flatMap (smAt n r)) =
    if k = 0 then 0 else if r + k + 1 < n then along g r k - along g (r + 1) k + eg (g r k) (g (r + 1) k) + eg (g (r + 1) 0) (g r 0)
      else along g r k - along g (r + 1) (k - 1) + eg (g r k) (g (r + 1) (k - 1)) + eg (g (r + 1) 0) (g r 0)
  | 0, _ => rfl
  | k + 1, h => by
    rw [List.range_succ, List.flatMap_append, smSum_app, strip n g r k (by omega), if_neg (Nat.succ_ne_zero k)]
    have e1 : (List.flatMap (smAt n r) [k]) = smAt n r k := by simp
    rw [e1]
    have a1 := along_succ g r k
    have a2 := along_succ g (r + 1) k
    have b1 := eg_anti (g r (k + 1)) (g (r + 1) k)
    have b2 := eg_anti (g (r + 1) (k + 1)) (g (r + 1) k)
    have b3 := eg_anti (g r k) (g (r + 1) k)
    have b4 := eg_anti (g r (k + 1)) (g (r + 1) (k + 1))
    by_cases hk : r + (k + 1) + 1 < n
    · rw [if_pos hk]
      have e2 : smAt n r k = [(r, k, 0), (r, k, 1)] := if_pos (by omega)
      have e3 : smSum g [(r, k, 0), (r, k, 1)] = (eg (g r (k + 1)) (g (r + 1) (k + 1)) + eg (g (r + 1) (k + 1)) (g (r + 1) k) + eg (g (r + 1) k) (g r (k + 1))) + ((eg (g r k) (g r (k + 1)) + eg (g r (k + 1)) (g (r + 1) k) + eg (g (r + 1) k) (g r k)) + 0) := rfl
      rw [e2, e3]
      by_cases h0 : k = 0
      · subst h0
        rw [if_pos rfl]
        have z1 : along g r 0 = 0 := rfl
        have z2 : along g (r + 1) 0 = 0 := rfl
        simp only [Nat.zero_add] at *
        omega
      · rw [if_neg h0, if_pos (by omega)]
        omega
    · rw [if_neg hk]
      have e2 : smAt n r k = [(r, k, 1)] := if_neg (by omega)
      have e3 : smSum g [(r, k, 1)] = (eg (g r k) (g r (k + 1)) + eg (g r (k + 1)) (g (r + 1) k) + eg (g (r + 1) k) (g r k)) + 0 := rfl
      rw [e2, e3, Nat.add_sub_cancel]
      by_cases h0 : k = 0
      · subst h0
        rw [if_pos rfl]
        have z1 : along g r 0 = 0 := rfl
        have z2 : along g (r + 1) 0 = 0 := rfl
        simp only [Nat.zero_add] at *
        omega
      · rw [if_neg h0, if_pos (by omega)]
        omega
def rightUp (n : Nat) (g : Nat → Nat → Nat) (k : Nat) : Int := ((List.range k).map fun r => eg (g r (n - 1 - r)) (g (r + 1) (n - 1 - (r + 1)))).sum
def leftDown (g : Nat → Nat → Nat) (k : Nat) : Int := ((List.range k).map fun r => eg (g (r + 1) 0) (g r 0)).sum
theorem rightUp_succ (n : Nat) (g : Nat → Nat → Nat) (k : Nat) : rightUp n g (k + 1) = rightUp n g k + eg (g k (n - 1 - k)) (g (k + 1) (n - 1 - (k + 1))) := by
  unfold rightUp
  rw [List.range_succ, List.map_append, List.sum_append]
  show _ + (eg (g k (n - 1 - k)) (g (k + 1) (n - 1 - (k + 1))) + 0) = _
  omega
theorem leftDown_succ (g : Nat → Nat → Nat) (k : Nat) : leftDown g (k + 1) = leftDown g k + eg (g (k + 1) 0) (g k 0) := by
  unfold leftDown
  rw [List.range_succ, List.map_append, List.sum_append]
  show _ + (eg (g (k + 1) 0) (g k 0) + 0) = _
  omega
theorem rows (n : Nat) (g : Nat → Nat → Nat) : ∀ k, k ≤ n - 1 → smSum g ((List.range k).flatMap (smRow n)) = along g 0 (n - 1) - along g k (n - 1 - k) + rightUp n g k + leftDown g k
  | 0, _ => by
    have z1 : rightUp n g 0 = 0 := rfl
    have z2 : leftDown g 0 = 0 := rfl
    show (0 : Int) = along g 0 (n - 1) - along g 0 (n - 1 - 0) + rightUp n g 0 + leftDown g 0
    rw [Nat.sub_zero]
    omega
  | k + 1, h => by
    rw [List.range_succ, List.flatMap_append, smSum_app, rows n g k (by omega)]
    have e1 : (List.flatMap (smRow n) [k]) = smRow n k := by simp
    rw [e1, rightUp_succ, leftDown_succ]
    have e2 := strip n g k (n - k - 1) (Nat.le_refl _)
    have e3 : smSum g (smRow n k) = smSum g ((List.range (n - k - 1)).flatMap (smAt n k)) := rfl
    rw [if_neg (show ¬ n - k - 1 = 0 by omega), if_neg (show ¬ k + (n - k - 1) + 1 < n by omega)] at e2
    rw [e3, e2]
    have i1 : n - k - 1 = n - 1 - k := by omega
    have i2 : n - k - 1 - 1 = n - 1 - (k + 1) := by omega
    rw [i1] at *
    have i3 : n - 1 - k - 1 = n - 1 - (k + 1) := by omega
    rw [i3]
    omega
/-- all turns together, by the side -/
theorem turnsSide (n : Nat) (g : Nat → Nat → Nat) : smSum g (smAll n) = along g 0 (n - 1) + rightUp n g (n - 1) + leftDown g (n - 1) := by
  have h := rows n g (n - 1) (Nat.le_refl _)
  rw [Nat.sub_self] at h
  have z : along g (n - 1) 0 = 0 := rfl
  unfold smAll
  omega
end Dt

/-! list(zip(xs, ys)) over two lists: a new list of new pairs. -/
namespace Zl
open PySem PySem.W PySem.Calls PyProof.Rows PyProof.V PySem.Spec

/-- the pairs that were given out stand at as -/
structure Gv (xs ys : Array Value) (lo : Addr) (h : Heap) (as : List Addr) : Prop where
  up : as.Pairwise (· < ·)
  hi : ∀ a ∈ as, lo < a
  at_ : ∀ (j : Nat) (a : Addr), as[j]? = some a → ∃ x y, xs[j]? = some x ∧ ys[j]? = some y ∧ IsPair h a x y
theorem Gv.lt {xs ys : Array Value} {lo : Addr} {h : Heap} {as : List Addr} (g : Gv xs ys lo h as) {a : Addr} (ha : a ∈ as) : a < h.objs.size := by
  obtain ⟨j, hj⟩ := List.mem_iff_getElem?.mp ha
  obtain ⟨_, _, _, _, e⟩ := g.at_ j a hj
  exact Heap.lt_size e
theorem Gv.low {xs ys : Array Value} {lo lo' : Addr} {h : Heap} {as : List Addr} (g : Gv xs ys lo h as) (hl : lo' ≤ lo) : Gv xs ys lo' h as := ⟨g.up, fun a ha => Nat.lt_of_le_of_lt hl (g.hi a ha), g.at_⟩
/-- the zip in the turn i; S the list that grows -/
def Zs (z TI TO i1 i2 l1 l2 S : Addr) (xs ys : Array Value) (i : Nat) (h : Heap) : Prop :=
  IsPair h TI (.ref i1) (.ref i2) ∧ h.IsListIter i1 l1 i ∧ h.IsListIter i2 l2 i ∧ h.IsList l1 xs ∧ h.IsList l2 ys ∧
    ((IsZip h z TI TO .none ∧ ∃ a b, IsPair h TO a b) ∨ ∃ T f oT, IsZipHeld h z TI TO T f ∧ h.get? T = some oT ∧ T ≠ z ∧ T ≠ i1 ∧ T ≠ i2 ∧ T ≠ S)
structure Ap (z TI TO i1 i2 l1 l2 S : Addr) : Prop where
  D : ZipApart z TI TO i1 i2 l1 l2
  sz : S ≠ z
  sTI : S ≠ TI
  sTO : S ≠ TO
  si1 : S ≠ i1
  si2 : S ≠ i2
  sl1 : S ≠ l1
  sl2 : S ≠ l2
theorem Zs.frame {z TI TO i1 i2 l1 l2 S : Addr} {xs ys : Array Value} {i : Nat} {h h' : Heap} (p : Ap z TI TO i1 i2 l1 l2 S) (st : Zs z TI TO i1 i2 l1 l2 S xs ys i h) (k : ∀ b o, b ≠ S → h.get? b = some o → h'.get? b = some o) : Zs z TI TO i1 i2 l1 l2 S xs ys i h' := by
  obtain ⟨a1, a2, a3, a4, a5, a6⟩ := st
  refine ⟨k _ _ p.sTI.symm a1, a2.at fun o e => k _ o p.si1.symm e, a3.at fun o e => k _ o p.si2.symm e, a4.at fun o e => k _ o p.sl1.symm e, a5.at fun o e => k _ o p.sl2.symm e, ?_⟩
  rcases a6 with ⟨b1, a, b, b2⟩ | ⟨T, f, oT, b1, b2, r1, r2, r3, r4⟩
  · exact .inl ⟨k _ _ p.sz.symm b1, a, b, k _ _ p.sTO.symm b2⟩
  · exact .inr ⟨T, f, oT, k _ _ p.sz.symm b1, k _ _ r4 b2, r1, r2, r3, r4⟩
section
variable {prog : Program} {w : World} {A : Around} {E : Value → Shared → Prop} {s : Shared} {z TI TO i1 i2 l1 l2 S : Addr} {xs ys : Array Value}
theorem zsItem {i : Nat} {Q : Option Value → Shared → Prop} (p : Ap z TI TO i1 i2 l1 l2 S) (st : Zs z TI TO i1 i2 l1 l2 S xs ys i s.heap) (hS : S < s.heap.objs.size) {x y : Value} (ex : xs[i]? = some x) (ey : ys[i]? = some y)
    (hQ : ∀ h', Zs z TI TO i1 i2 l1 l2 S xs ys (i + 1) h' → IsPair h' s.heap.objs.size x y → (∀ c o, c ≠ z → c ≠ TO → c ≠ i1 → c ≠ i2 → s.heap.get? c = some o → h'.get? c = some o) → Q (some (.ref s.heap.objs.size)) { s with heap := h' }) :
    wpAny (model prog w) A (pyNext (.ref z)) Q E s := by
  obtain ⟨a1, a2, a3, a4, a5, a6⟩ := st
  have D := p.D
  have lt : ∀ {c o}, s.heap.get? c = some o → s.heap.objs.size ≠ c := fun e => Nat.ne_of_gt (Heap.lt_size e)
  have n1 : s.heap.objs.size ≠ i1 := let ⟨_, e, _⟩ := a2; lt e
  have n2 : s.heap.objs.size ≠ i2 := let ⟨_, e, _⟩ := a3; lt e
  rcases a6 with ⟨b1, a, b, b2⟩ | ⟨T, f, oT, b1, b2, r1, r2, r3, r4⟩
  · refine wpAny_pyNext_zip_item D b1 a1 b2 a2 a3 a4 a5 ex ey fun h' c1 c2 c3 c4 c5 c6 hk => hQ h' ⟨hk _ _ D.TIz D.TITO D.TIi1 D.TIi2 a1, c3, c4, a4.at fun o e => hk _ o D.l1z D.l1TO D.l1i1 D.l1i2 e, a5.at fun o e => hk _ o D.l2z D.l2TO D.l2i1 D.l2i2 e, .inr ⟨s.heap.objs.size, false, _, c1, c5, lt b1, n1, n2, Nat.ne_of_gt hS⟩⟩ c5 hk
  · refine wpAny_pyNext_zip_item_held D b1 b2 a1 a2 a3 a4 a5 ex ey fun h' c1 c3 c4 c5 c6 hk => hQ h' ⟨hk _ _ D.TIz D.TIi1 D.TIi2 a1, c3, c4, a4.at fun o e => hk _ o D.l1z D.l1i1 D.l1i2 e, a5.at fun o e => hk _ o D.l2z D.l2i1 D.l2i2 e, .inr ⟨T, true, oT, c1, hk _ _ r1 r2 r3 b2, r1, r2, r3, r4⟩⟩ c5 fun c o d1 _ d3 d4 e => hk c o d1 d3 d4 e
theorem zsDone {i : Nat} {Q : Option Value → Shared → Prop} (hh : A.handled = none) (p : Ap z TI TO i1 i2 l1 l2 S) (st : Zs z TI TO i1 i2 l1 l2 S xs ys i s.heap) (hend : xs[i]? = none ∨ ys[i]? = none)
    (hQ : ∀ h', (∀ c o, c ≠ z → c ≠ TO → c ≠ i1 → c ≠ i2 → s.heap.get? c = some o → h'.get? c = some o) → Q none { s with heap := h' }) : wpAny (model prog w) A (pyNext (.ref z)) Q E s := by
  obtain ⟨a1, a2, a3, a4, a5, a6⟩ := st
  rcases a6 with ⟨b1, a, b, b2⟩ | ⟨T, f, oT, b1, b2, r1, r2, r3, r4⟩
  · exact wpAny_pyNext_zip_end hh p.D b1 a1 b2 a2 a3 a4 a5 hend fun h' hk => hQ h' fun c o d1 d2 d3 d4 e => hk c o d1 d2 d3 d4 e
  · exact wpAny_pyNext_zip_end_held hh p.D b1 b2 a1 a2 a3 a4 a5 hend fun h' hk => hQ h' fun c o d1 _ d3 d4 e => hk c o d1 d3 d4 e
end
section
variable {prog : Program} {w : World} {A : Around} {s : Shared} {R : Result → Shared → Prop} {z TI TO i1 i2 l1 l2 S : Addr} {xs ys : Array Value} {n : Nat}
theorem zipLoop (hh : A.handled = none) (p : Ap z TI TO i1 i2 l1 l2 S) (hn : n ≤ sizeLine) (hin : ∀ j, j < n → ∃ x y, xs[j]? = some x ∧ ys[j]? = some y) (hout : xs[n]? = none ∨ ys[n]? = none) (res : Value) {h1 : Heap} {lo : Addr} (hlz : z ≤ lo) (hlO : TO ≤ lo) (hl1 : i1 ≤ lo) (hl2 : i2 ≤ lo) (hlS : S ≤ lo)
    (hR : ∀ h' tk acc c as, (∀ b o, b ≠ S → b ≠ z → b ≠ TO → b ≠ i1 → b ≠ i2 → h1.get? b = some o → h'.get? b = some o) → h'.get? S = some { cls := .type "list", dict := none, data := .seq acc c, slots := #[] } → as.length = n → Gv xs ys lo h' as → acc.toList = as.map Value.ref → R (.ok (.ret res)) { s with heap := h', toks := tk }) :
    ∀ (k i : Nat) (h : Heap) (tk c : Nat) (acc : Array Value) (as : List Addr), n - i = k → i ≤ n → Zs z TI TO i1 i2 l1 l2 S xs ys i h → (∀ b o, b ≠ S → b ≠ z → b ≠ TO → b ≠ i1 → b ≠ i2 → h1.get? b = some o → h.get? b = some o) →
      h.get? S = some { cls := .type "list", dict := none, data := .seq acc c, slots := #[] } → acc.toList = as.map Value.ref → as.length = i → Gv xs ys lo h as → lo < h.objs.size → codeAny (model prog w) A (.builtin "list.extend.loop" ⟨[.ref S, .ref z, res], []⟩) R { s with heap := h, toks := tk } := by
  intro k
  induction k with
  | zero =>
    intro i h tk c acc as hk hi st hkp hS hacc hal hG hlo
    have ei : i = n := by omega
    subst ei
    have off : ∀ a ∈ as, a ≠ z ∧ a ≠ TO ∧ a ≠ i1 ∧ a ≠ i2 := fun a ha => by
      have q := hG.hi a ha
      exact ⟨Nat.ne_of_gt (Nat.lt_of_le_of_lt hlz q), Nat.ne_of_gt (Nat.lt_of_le_of_lt hlO q), Nat.ne_of_gt (Nat.lt_of_le_of_lt hl1 q), Nat.ne_of_gt (Nat.lt_of_le_of_lt hl2 q)⟩
    refine codeAny_builtin PySem.F.entry_extend_loop (by
      rw [Around.under_plainId PySem.F.plain_extend_loop _]
      show wpAny _ A.in1 (pyNext (.ref z) >>= _) _ _ _
      refine wpAny_bind (zsDone (s := { s with heap := h, toks := tk }) (A := A.in1) hh p st hout fun h' he => wpAny_pure (hR h' tk acc c as (fun b o b1 b2 b3 b4 b5 e => he b o b2 b3 b4 b5 (hkp b o b1 b2 b3 b4 b5 e)) (he S _ p.sz p.sTO p.si1 p.si2 hS) hal ⟨hG.up, hG.hi, fun j a hj => ?_⟩ hacc))
      obtain ⟨x, y, e1, e2, e3⟩ := hG.at_ j a hj
      obtain ⟨o1, o2, o3, o4⟩ := off a (List.mem_of_getElem? hj)
      exact ⟨x, y, e1, e2, he a _ o1 o2 o3 o4 e3⟩)
  | succ k ih =>
    intro i h tk c acc as hk hi st hkp hS hacc hal hG hlo
    have hlt : i < n := by omega
    obtain ⟨x, y, ex, ey⟩ := hin i hlt
    have hsz : acc.size = i := by rw [← Array.length_toList, hacc, List.length_map, hal]
    refine codeAny_builtin PySem.F.entry_extend_loop (by
      rw [Around.under_plainId PySem.F.plain_extend_loop _]
      show wpAny _ A.in1 (pyNext (.ref z) >>= _) _ _ _
      refine wpAny_bind (zsItem (s := { s with heap := h, toks := tk }) p st (Heap.lt_size hS) ex ey fun h' st' ht hkq => ?_)
      dsimp only at ht hkq ⊢
      have hSl : S < h.objs.size := Heap.lt_size hS
      have hS' := hkq S _ p.sz p.sTO p.si1 p.si2 hS
      have up : ∀ b o, b ≠ S → h'.get? b = some o → (h'.update S (Obj.mapSeq (·.push (Value.ref h.objs.size)))).get? b = some o := fun b o hb e => (Heap.get?_update_other _ _ (Ne.symm hb)).trans e
      have new : (h'.update S (Obj.mapSeq (·.push (Value.ref h.objs.size)))).get? h.objs.size = _ := up _ _ (Nat.ne_of_gt hSl) ht
      show wpAny _ A.in1 (updateSeq S (·.push (Value.ref h.objs.size)) >>= _) _ _ _
      refine wpAny_bind (wpAny_updateSeq hS' rfl (wpAny_pure ⟨plainId_quiet PySem.F.plain_extend_loop _, ih (i + 1) _ tk _ (acc.push (Value.ref h.objs.size)) (as ++ [h.objs.size]) (by omega) hlt (st'.frame p up) (fun b o b1 b2 b3 b4 b5 e => up b o b1 (hkq b o b2 b3 b4 b5 (hkp b o b1 b2 b3 b4 b5 e))) (Heap.get?_update_self _ hS' rfl)
        (by rw [Array.toList_push, hacc, List.map_append]; rfl) (by rw [List.length_append, hal]; rfl) ⟨?_, ?_, ?_⟩ (Nat.lt_trans hlo (Heap.lt_size new))⟩) (by rw [hsz]; omega) (by show (acc.push (Value.ref h.objs.size)).size ≤ sizeLine + 1; rw [Array.size_push, hsz]; omega))
      · refine List.pairwise_append.mpr ⟨hG.up, List.pairwise_singleton _ _, fun a ha b hb => by rw [List.mem_singleton.mp hb]; exact hG.lt ha⟩
      · intro a ha
        rcases List.mem_append.mp ha with ha | ha
        · exact hG.hi a ha
        · rw [List.mem_singleton.mp ha]; exact hlo
      · intro j b hj
        by_cases h1 : j < as.length
        · rw [List.getElem?_append_left h1] at hj
          obtain ⟨u, v, e1, e2, e3⟩ := hG.at_ j b hj
          have q := hG.hi b (List.mem_of_getElem? hj)
          exact ⟨u, v, e1, e2, up b _ (Nat.ne_of_gt (Nat.lt_of_le_of_lt hlS q)) (hkq b _ (Nat.ne_of_gt (Nat.lt_of_le_of_lt hlz q)) (Nat.ne_of_gt (Nat.lt_of_le_of_lt hlO q)) (Nat.ne_of_gt (Nat.lt_of_le_of_lt hl1 q)) (Nat.ne_of_gt (Nat.lt_of_le_of_lt hl2 q)) e3)⟩
        · have hj2 : j = as.length := by
            have q := (List.getElem?_eq_some_iff.mp hj).1
            rw [List.length_append, List.length_singleton] at q
            omega
          subst hj2
          have hb : h.objs.size = b := by simpa using hj
          subst hb
          exact ⟨x, y, by rw [hal]; exact ex, by rw [hal]; exact ey, new⟩)
end
theorem zipNoLen : typeLookup (.type "zip") "__len__" = pure none := am_miss_of_fast (by decide +kernel)
theorem zipNoHint : typeLookup (.type "zip") "__length_hint__" = pure none := am_miss_of_fast (by decide +kernel)
section
variable {prog : Program} {w : World} {A : Around} {E : Value → Shared → Prop} {s : Shared} {z TI TO i1 i2 l1 l2 : Addr} {xs ys : Array Value} {n : Nat}
theorem zipHint {Q : Bool → Shared → Prop} (hT : s.TypeIs (.ref z) "zip") (h : Q true s) : wpAny (model prog w) A (Builtin.List.listLengthHint (.ref z)) Q E s := by
  unfold Builtin.List.listLengthHint
  refine wpAny_bind (wpAny_specialOf hT zipNoLen ?_)
  show wpAny _ A (specialOf (Value.ref z) (Str.ofString "__length_hint__") >>= _) _ _ _
  exact wpAny_bind (wpAny_specialOf hT zipNoHint (wpAny_pure h))
theorem callListZip {Q : Value → Shared → Prop} (hh : A.handled = none) (D : ZipApart z TI TO i1 i2 l1 l2) (hz : IsZip s.heap z TI TO .none) (hTI : IsPair s.heap TI (.ref i1) (.ref i2)) (hTO : ∃ a b, IsPair s.heap TO a b) (h1 : s.heap.IsListIter i1 l1 0) (h2 : s.heap.IsListIter i2 l2 0) (hl1 : s.heap.IsList l1 xs) (hl2 : s.heap.IsList l2 ys)
    (hn : n ≤ sizeLine) (hin : ∀ j, j < n → ∃ x y, xs[j]? = some x ∧ ys[j]? = some y) (hout : xs[n]? = none ∨ ys[n]? = none)
    (hQ : ∀ h' tk acc c as, (∀ b o, b ≠ z → b ≠ TO → b ≠ i1 → b ≠ i2 → s.heap.get? b = some o → h'.get? b = some o) → h'.get? s.heap.objs.size = some { cls := .type "list", dict := none, data := .seq acc c, slots := #[] } → as.length = n → Gv xs ys s.heap.objs.size h' as → acc.toList = as.map Value.ref → Q (.ref s.heap.objs.size) { s with heap := h', toks := tk }) :
    wpAny (model prog w) A (call (.type "list") [.ref z]) Q E s := by
  refine callType_codes (Q₁ := fun obj t => obj = .ref s.heap.objs.size ∧ t = { s with heap := s.heap.push { cls := .type "list", data := .seq #[] } }) PySem.F.called_list (PySem.F.typeCall_list_1 _) PySem.F.entry_list_init (code_list_new _ ⟨rfl, rfl⟩) fun obj t ht => ?_
  obtain ⟨rfl, rfl⟩ := ht
  obtain ⟨u0, u1, hTO⟩ := hTO
  generalize hSe : s.heap.objs.size = S at *
  have hS0 : (s.heap.push { cls := .type "list", data := .seq #[] }).get? S = some { cls := .type "list", data := .seq #[] } := by rw [← hSe]; exact Heap.get?_push_size _ rfl
  have nS : ∀ {b o}, s.heap.get? b = some o → S ≠ b := fun e => by rw [← hSe]; exact Nat.ne_of_gt (Heap.lt_size e)
  have p : Ap z TI TO i1 i2 l1 l2 S := ⟨D, nS hz, nS hTI, nS hTO, (let ⟨_, e, _⟩ := h1; nS e), (let ⟨_, e, _⟩ := h2; nS e), (let ⟨_, e, _⟩ := hl1; nS e), (let ⟨_, e, _⟩ := hl2; nS e)⟩
  have lS : ∀ {b o}, s.heap.get? b = some o → b ≤ S := fun e => by rw [← hSe]; exact Nat.le_of_lt (Heap.lt_size e)
  have gone : ∀ {h : Heap}, (∀ b o, s.heap.get? b = some o → h.get? b = some o) → ∀ (f : Obj → Obj) (b : Addr) (o : Obj), s.heap.get? b = some o → (h.update S f).get? b = some o := fun q f b o e => (Heap.get?_update_other _ _ (nS e)).trans (q b o e)
  have k1 : ∀ b o, s.heap.get? b = some o → (s.heap.push { cls := .type "list", data := .seq #[] }).get? b = some o := fun b o e => Heap.get?_push_of_some _ e
  have ty : ∀ {h : Heap} {tk : Nat}, (∀ b o, s.heap.get? b = some o → h.get? b = some o) → ({ s with heap := h, toks := tk } : Shared).TypeIs (.ref z) "zip" := fun q => ⟨_, q _ _ hz, rfl⟩
  refine ⟨⟨_, hS0, rfl⟩, PySem.F.args_list_init_2 _ _, ?_⟩
  show wpAny _ _ (Builtin.List.listItems (.ref S) >>= fun old => Builtin.List.listUpdate (.ref S) (fun _ => #[]) >>= fun _ => letGo old.toList.reverse >>= fun _ => Builtin.List.listExtendWith (.ref S) (.ref z) .none) _ _ _
  unfold Builtin.List.listItems
  refine wpAny_bind (wpAny_bind (wpAny_seqItems hS0 rfl (wpAny_pure ?_)))
  show wpAny _ _ (updateSeq S (fun _ => #[]) >>= fun _ => letGo (#[] : Array Value).toList.reverse >>= fun _ => Builtin.List.listExtendWith (.ref S) (.ref z) .none) _ _ _
  refine wpAny_bind (wpAny_updateSeq hS0 rfl ?_)
  have hS2 := Heap.get?_update_self (Obj.mapSeq (fun _ => (#[] : Array Value))) hS0 rfl
  have k2 := gone k1 (Obj.mapSeq (fun _ => (#[] : Array Value)))
  refine wpAny_bind (wpAny_letGo ?_)
  unfold Builtin.List.listExtendWith
  refine wpAny_bind (wpAny_typeOf (ty k2) ?_)
  have f1 : Builtin.List.listSameRef (.ref S) (.ref z) = false := by simp [Builtin.List.listSameRef, p.sz]
  simp only [f1, show (Value.type "zip" == Value.type "list") = false by decide, show (Value.type "zip" == Value.type "tuple") = false by decide, Bool.or_false, Bool.false_eq_true, if_false]
  refine wpAny_bind (wpAny_pyIter_zip (k2 _ _ hz) (wpAny_bind (wpAny_holding (zipHint (ty k2) ?_))))
  show wpAny _ _ (rule "list.extend.makes-room" >>= fun _ => Builtin.List.listTouch (.ref S) >>= fun _ => again (.builtin "list.extend.loop" ⟨[.ref S, .ref z, .none], []⟩)) _ _ _
  refine wpAny_bind (wpAny_rule (wpAny_bind ?_))
  show wpAny _ _ (updateSeq S (·.push .none) >>= fun _ => updateSeq S (·.pop)) _ _ _
  refine wpAny_bind (wpAny_updateSeq hS2 rfl ?_)
  have hS3 := Heap.get?_update_self (Obj.mapSeq (·.push Value.none)) hS2 rfl
  have k3 := gone k2 (Obj.mapSeq (·.push Value.none))
  refine wpAny_updateSeq (hz := by seq_fits) hS3 rfl ?_
  have hS4 := Heap.get?_update_self (Obj.mapSeq (·.pop)) hS3 rfl
  have k4 := gone k3 (Obj.mapSeq (·.pop))
  refine wpAny_pure ⟨plainId_quiet PySem.F.plain_extend_loop _, ?_⟩
  refine zipLoop (A := A.in1) (R := wants (fun r t => r = Value.none ∧ Q (Value.ref S) t) E) (s := s) (h1 := s.heap) (lo := S) (n := n) hh p hn hin hout .none (lS hz) (lS hTO) (let ⟨_, e, _⟩ := h1; lS e) (let ⟨_, e, _⟩ := h2; lS e) (Nat.le_refl _) (fun h' tk acc c as hk hS' hl hG hacc => ⟨rfl, hQ h' tk acc c as (fun b o b2 b3 b4 b5 e => hk b o (fun q => nS e q.symm) b2 b3 b4 b5 e) hS' hl hG hacc⟩) n 0 _ _ _ #[] [] (Nat.sub_zero _) (Nat.zero_le _)
    ⟨k4 _ _ hTI, h1.at fun o e => k4 _ o e, h2.at fun o e => k4 _ o e, hl1.at fun o e => k4 _ o e, hl2.at fun o e => k4 _ o e, .inl ⟨k4 _ _ hz, _, _, k4 _ _ hTO⟩⟩ (fun b o _ _ _ _ _ e => k4 b o e) hS4 rfl rfl ⟨.nil, (fun _ q => nomatch q), (fun j a q => by simp at q)⟩ (Heap.lt_size hS4)
end
end Zl

/-! list(zip(xs, ys)) as a rule; what may be walked, a list or a tuple; a list taken apart into names. -/
namespace Dt
open PySem PySem.Spec PyProof.Rows L2 Evl

/-- new pairs at their places -/
def layP : Hp → List Addr → List (V × V) → Hp
  | H, a :: as, p :: ps => layP (upd H a (.tup [p.1, p.2])) as ps
  | H, _, _ => H
theorem layP_ne {b : Addr} : ∀ (as : List Addr) (ps : List (V × V)) (H : Hp), b ∉ as → layP H as ps b = H b
  | [], _, _, _ => rfl
  | _ :: _, [], _, _ => rfl
  | a :: as, p :: ps, H, h => by
    have z : layP (upd H a (.tup [p.1, p.2])) as ps b = upd H a (.tup [p.1, p.2]) b := layP_ne as ps _ fun q => h (List.mem_cons_of_mem _ q)
    exact z.trans (upd_ne fun q => h (by rw [q]; exact List.mem_cons_self))
theorem layP_at : ∀ (as : List Addr) (ps : List (V × V)) (H : Hp), as.Nodup → ∀ {j : Nat} {a : Addr} {p : V × V}, as[j]? = some a → ps[j]? = some p → layP H as ps a = some (.tup [p.1, p.2])
  | [], _, _, _, j, a, p, h, _ => by simp at h
  | _ :: _, [], _, _, j, a, p, _, h => by simp at h
  | b :: as, q :: ps, H, hn, 0, a, p, h1, h2 => by
    have e1 : b = a := by simpa using h1
    have e2 : q = p := by simpa using h2
    subst e1 e2
    exact (layP_ne as ps _ (List.nodup_cons.mp hn).1).trans upd_same
  | b :: as, q :: ps, H, hn, j + 1, a, p, h1, h2 => layP_at as ps _ (List.nodup_cons.mp hn).2 (j := j) (by simpa using h1) (by simpa using h2)
theorem valsRefs : ∀ as : List Addr, Vals (as.map V.ref) (as.map Value.ref)
  | [] => .nil
  | a :: as => .cons rfl (valsRefs as)
def rZipL (K : PySem.W.Frag) : List V → Hp → VK → Prop := fun vs H Q => ∃ a b xs ys, vs = [.ref a, .ref b] ∧ SqL K H a xs ∧ SqL K H b ys ∧
  ∀ (H' : Hp) (p : Addr) (ts : List Addr), Ex H H' → H p = none → H' p = some (.lst (ts.map V.ref)) → ts.length = min xs.length ys.length → (∀ (j : Nat) (t : Addr), ts[j]? = some t → ∃ x y, xs[j]? = some x ∧ ys[j]? = some y ∧ H' t = some (.tup [x, y])) → Q (.ref p) H'
def tZipL (K : PySem.W.Frag) (ta : TA) : TE := fun σ H Q => ta σ H fun vs H1 => rZipL K vs H1 Q
section
variable {X : Cx}
theorem pe_listZip {e e2 : Expr} {ta : TA} {p q pos cpos : Pos} (hc : X.calm = true) (hg : Gl X "list") (hm : X.mg "list" = none) (hgz : Gl X "zip") (hmz : X.mg "zip" = none) (ha : PA X [e, e2] ta)
    (hs : starEach [.Call (.Name "zip" q) [e, e2] [] cpos] X.env = (false, eval (.Call (.Name "zip" q) [e, e2] [] cpos) X.env) :: starEach [] X.env := by rfl)
    (hs2 : starEach [e, e2] X.env = (false, eval e X.env) :: starEach [e2] X.env := by rfl) (hpl : (backTo cpos (starEach [e2] X.env)).any (·.1) = false := by rfl) :
    PE X (.Call (.Name "list" p) [.Call (.Name "zip" q) [e, e2] [] cpos] [] pos) (tZipL X.K ta) := by
  refine ⟨fun pins s σ H Q I hq => wpAny_Call_Name_kw (ld_blt I hg hm boot_list (PyProof.Rows.callWith_type1 ?_ hs rfl))⟩
  rw [hs]
  show wpAny _ _ (spliced ((false, eval (.Call (.Name "zip" q) [e, e2] [] cpos) X.env) :: backTo pos (starEach [] X.env))) _ _ s
  refine Calls.spliced_cons (Call_ (ld_blt I hgz hmz PyProof.Rows.boot_zip (PyProof.Rows.callWith_type1 (thn (ha.run cpos pins s σ H _ I hq) fun us s1 w1 => ?_) hs2 hpl)))
  obtain ⟨vs, H1, I1, r1, a, b, xs, ys, rfl, hqx, hqy, k⟩ := w1
  obtain ⟨its, rv, px, zx⟩ := I1.list hqx
  obtain ⟨its2, rv2, py, zy⟩ := I1.list hqy
  have la : a < s1.heap.objs.size := px.lt
  have lb : b < s1.heap.objs.size := py.lt
  match us, r1 with
  | [_, _], .cons rfl (.cons rfl .nil) =>
  refine call_zip_2 px.isList py.isList fun h' hz hTI hTO h1 h2 hsz hk => Calls.spliced_nil ?_
  have D := PySem.W.ktu_apart s1.heap.objs.size a b la lb
  have lx := rv.length
  have ly := rv2.length
  have hmin : min xs.length ys.length ≤ xs.length ∧ min xs.length ys.length ≤ ys.length := ⟨Nat.min_le_left _ _, Nat.min_le_right _ _⟩
  refine Zl.callListZip (s := { s1 with heap := h' }) (n := min xs.length ys.length) (I1.ok.hd hc) D hz hTI ⟨_, _, hTO⟩ h1 h2 (px.isList.at fun o e => hk _ o e) (py.isList.at fun o e => hk _ o e) (Nat.le_trans hmin.1 zx) (fun j hj => ?_) ?_ fun h2' tk acc c as hk2 hS hl hG hacc => ?_
  · have j1 : j < its.length := by omega
    have j2 : j < its2.length := by omega
    exact ⟨its[j], its2[j], by rw [List.getElem?_toArray, List.getElem?_eq_getElem j1], by rw [List.getElem?_toArray, List.getElem?_eq_getElem j2]⟩
  · rcases Nat.le_total xs.length ys.length with z | z
    · exact .inl (by rw [List.getElem?_toArray]; exact List.getElem?_eq_none (by omega))
    · exact .inr (by rw [List.getElem?_toArray]; exact List.getElem?_eq_none (by omega))
  have nsz : ∀ {bb : Addr} {o : Obj}, s1.heap.get? bb = some o → bb < s1.heap.objs.size := fun e => Heap.lt_size e
  have old : ∀ bb o, s1.heap.get? bb = some o → h2'.get? bb = some o := fun bb o e => by
    have q := nsz e
    have q2 : ∀ k, bb ≠ s1.heap.objs.size + k := fun k => Nat.ne_of_lt (Nat.lt_of_lt_of_le q (Nat.le_add_right _ k))
    exact hk2 bb o (q2 4) (q2 3) (Nat.ne_of_lt q) (q2 1) (hk bb o e)
  have hSs : ({ s1 with heap := h' } : Shared).heap.objs.size = s1.heap.objs.size + 5 := hsz
  rw [hSs] at hS hG
  generalize hSe : s1.heap.objs.size + 5 = S at hS hG
  have hSge : s1.heap.objs.size ≤ S := by rw [← hSe]; exact Nat.le_add_right _ 5
  have hSgt : s1.heap.objs.size < S := by rw [← hSe]; exact Nat.lt_add_of_pos_right (by decide)
  have nd : as.Nodup := List.Pairwise.imp (fun {u v} (h : u < v) => Nat.ne_of_lt h) hG.up
  have nS : S ∉ as := fun z => Nat.lt_irrefl _ (hG.hi _ z)
  have new : ∀ t, s1.heap.objs.size ≤ t → H1 t = none := fun t ht => I1.hok.fresh ht
  have newT : ∀ t ∈ as, H1 t = none := fun t ht => new t (Nat.le_trans hSge (Nat.le_of_lt (hG.hi t ht)))
  have get : ∀ j t, as[j]? = some t → ∃ x y u v, xs[j]? = some x ∧ ys[j]? = some y ∧ RelV x u ∧ RelV y v ∧ IsPair h2' t u v := fun j t hj => by
    obtain ⟨u, v, e1, e2, e3⟩ := hG.at_ j t hj
    have hjl := (List.getElem?_eq_some_iff.mp hj).1
    have j1 : j < xs.length := by omega
    have j2 : j < ys.length := by omega
    obtain ⟨u', hu', ru⟩ := rv.get (List.getElem?_eq_getElem j1)
    obtain ⟨v', hv', rv'⟩ := rv2.get (List.getElem?_eq_getElem j2)
    rw [List.getElem?_toArray] at e1 e2
    rw [hu'] at e1
    rw [hv'] at e2
    cases e1
    cases e2
    exact ⟨_, _, _, _, List.getElem?_eq_getElem j1, List.getElem?_eq_getElem j2, ru, rv', e3⟩
  generalize hH' : layP (upd H1 S (.lst (as.map V.ref))) as (xs.zip ys) = H'
  have atS : H' S = some (.lst (as.map V.ref)) := by
    rw [← hH', layP_ne _ _ _ nS, upd_same]
  have atT : ∀ j t x y, as[j]? = some t → xs[j]? = some x → ys[j]? = some y → H' t = some (.tup [x, y]) := fun j t x y h1 h2 h3 => by
    rw [← hH']
    exact layP_at as (xs.zip ys) _ nd (p := (x, y)) h1 (List.getElem?_zip_eq_some.mpr ⟨h2, h3⟩)
  have off : ∀ bb, bb ∉ as → bb ≠ S → H' bb = H1 bb := fun bb h1 h2 => by rw [← hH', layP_ne _ _ _ h1, upd_ne h2]
  have ex : ∀ bb u, H1 bb = some u → H' bb = some u := fun bb u e => by
    rw [off bb (fun z => by rw [newT bb z] at e; cases e) (fun z => by rw [z, new S hSge] at e; cases e)]
    exact e
  have J : Inv X pins σ H' { s1 with heap := h2', toks := tk } := by
    refine I1.call' (ch := []) rfl ⟨fun bb o q _ _ _ => old bb o q, fun bb o q _ _ _ => ⟨o.slots, old bb o q⟩, fun bb o q n _ => ?_, fun bb o q _ => ⟨o, old bb o q⟩, fun bb vs q => ex bb _ q, fun bb o u q => ex bb _ q, fun bb ps q => ⟨#[], by rw [ex bb _ q]; simp⟩⟩ (fun bb u q => ?_) I1.bare fun bb z => by simp at z
    · have q1 := nsz q
      rw [off bb (fun z => Nat.lt_irrefl _ (Nat.lt_trans q1 (Nat.lt_trans hSgt (hG.hi bb z)))) (Nat.ne_of_lt (Nat.lt_trans q1 hSgt))]
      exact n
    · by_cases hb : bb ∈ as
      · obtain ⟨j, hj⟩ := List.mem_iff_getElem?.mp hb
        obtain ⟨x, y, u', v', e1, e2, ru, rw_, e3⟩ := get j bb hj
        rw [atT j bb x y hj e1 e2] at q
        cases q
        exact ⟨by show 2 ≤ sizeLine; decide, [u', v'], .cons ru (.cons rw_ .nil), ⟨_, e3, rfl, _, rfl⟩⟩
      · by_cases hb2 : bb = S
        · rw [hb2] at q ⊢
          rw [atS] at q
          cases q
          exact ⟨by rw [List.length_map, hl]; exact Nat.le_trans hmin.1 zx, acc.toList, c, by rw [hacc]; exact valsRefs as, by rw [Array.toArray_toList]; exact hS⟩
        · rw [off bb hb hb2] at q
          exact (I1.hok bb u q).stay (fun d v _ y => old d v y) (fun d y => ex d _ y) fun d vs y => ex d _ y
  exact ⟨.ref S, H', J, congrArg Value.ref (show h'.objs.size = S from hSs.trans hSe), k H' S as ex (new S hSge) atS hl fun j t hj => by
    obtain ⟨x, y, _, _, e1, e2, _⟩ := get j t hj
    exact ⟨x, y, e1, e2, atT j t x y hj e1 e2⟩⟩
end
section
variable {K : PySem.W.Frag} {σ : L2.St} {H H' : Hp}
theorem dpsOf : ∀ {vs : List V} {ds : List PyData}, vs.length = ds.length → (∀ (j : Nat) (v : V) (d : PyData), vs[j]? = some v → ds[j]? = some d → Dp K H v d) → DpAll K H vs ds
  | [], [], _, _ => .nil
  | [], _ :: _, h, _ => by cases h
  | _ :: _, [], h, _ => by cases h
  | v :: vs, d :: ds, h, k => .cons (k 0 v d rfl rfl) (dpsOf (Nat.succ.inj h) fun j u e h1 h2 => k (j + 1) u e (by simpa using h1) (by simpa using h2))
theorem enListZip {ta : TA} {ds es : List PyData} (h : EvAD K ta σ H [.list ds, .list es]) : EvN K (tZipL K ta) σ H (List.zipWith (fun a b => .tuple [a, b]) ds es) := fun H1 a Q q =>
  h H1 a _ fun vs H2 b hd => by
    obtain ⟨v, w, rfl, h1, h2⟩ := dps2 hd
    obtain ⟨p, xs, rfl, hs, hr⟩ := dpLst h1
    obtain ⟨p', ys, rfl, hs', hr'⟩ := dpLst h2
    refine ⟨p, p', xs, ys, rfl, hs, hs', fun H3 l ts e hl hl2 hlen ht => q l _ H3 (fresh_back b hl) (b.trans e) hl2 (dpsOf ?_ fun j v d h3 h4 => ?_)⟩
    · rw [List.length_map, List.length_zipWith, hlen, dpsLen hr, dpsLen hr']
    · rw [List.getElem?_map] at h3
      cases hj : ts[j]? with
      | none => rw [hj] at h3; cases h3
      | some t =>
        rw [hj] at h3
        cases h3
        obtain ⟨x, y, e1, e2, e3⟩ := ht j t hj
        obtain ⟨d1, k1, r1⟩ := dpsGet hr e1
        obtain ⟨d2, k2, r2⟩ := dpsGet hr' e2
        rw [List.getElem?_zipWith, k1, k2] at h4
        cases h4
        exact dpOfT e3 (.cons (dpUp e r1) (.cons (dpUp e r2) .nil))
end

/-! for x in xs, xs a list or a tuple -/
def iSeq (K : PySem.W.Frag) (tl : TE) : TI := fun σ H R => tl σ H fun x H1 => ∃ a, x = .ref a ∧ ((∃ xs, SqL K H1 a xs ∧ R (Itl K a) H1) ∨ ∃ xs, SqT K H1 a xs ∧ R (Itt K a) H1)
theorem pi_seq {X : Cx} {tg l : Expr} {tl : TE} (hl : PE X l tl) : PI X tg l (iSeq X.K tl) := by
  refine ⟨fun pins s σ H R I h => thn (hl.run pins s σ H _ I h) fun v t w => ?_⟩
  obtain ⟨x, H1, J, r1, a, rfl, c⟩ := w
  cases r1
  have own : ∀ b ∈ [t.heap.objs.size], FpOk X pins H1 b := fun b hb => by
    rw [List.mem_singleton.mp hb]
    exact J.fpOk (Nat.le_refl _) (J.hok.fresh (Nat.le_refl _))
  rcases c with ⟨xs, hq, q⟩ | ⟨xs, hq, q⟩
  · obtain ⟨its, rv, p, _⟩ := J.list hq
    exact wpAny_pyIter_list p.isList ⟨_, _, _, _, H1, rfl, J.kept (t' := t.toks) fun b o e => Heap.get?_push_of_some _ e, turn_list a _, ⟨_, Heap.get?_push_size _ rfl, rfl, rfl⟩, own, q⟩
  · obtain ⟨its, rv, p, _⟩ := J.tuple hq
    exact wpAny_pyIter_tuple (show t.heap.IsTuple a its.toArray from p) ⟨_, _, _, _, H1, rfl, J.kept (t' := t.toks) fun b o e => Heap.get?_push_of_some _ e, turn_tuple a _, ⟨_, Heap.get?_push_size _ rfl, rfl, rfl⟩, own, q⟩
section
variable {K : PySem.W.Frag} {σ : L2.St} {H H' : Hp} {te : TE}
theorem idSeqL {ds : List PyData} (h : EvD K te σ H (.list ds)) : IdD K (iSeq K te) σ H ds := fun H1 a R q =>
  h H1 a _ fun v H2 b hd => by
    obtain ⟨p, xs, rfl, hs, hr⟩ := dpLst hd
    exact ⟨p, rfl, .inl ⟨xs, hs, q _ _ b (ylL hs hr)⟩⟩
theorem idSeqT {ds : List PyData} (h : EvD K te σ H (.tuple ds)) : IdD K (iSeq K te) σ H ds := fun H1 a R q =>
  h H1 a _ fun v H2 b hd => by
    obtain ⟨p, xs, rfl, hs, hr⟩ := dpTup hd
    exact ⟨p, rfl, .inr ⟨xs, hs, q _ _ b (ylT hs hr)⟩⟩
end
end Dt

/-! Dicts whose keys are tuples of tuples: made by a comprehension, asked by in and []. -/
namespace Dt
open PySem PySem.Spec PyProof.Rows L2 Evl

section
variable {X : Cx} {pins : List (Addr × Obj)} {σ : L2.St} {H : Hp} {s : Shared}
mutual
theorem nestOf (I : Inv X pins σ H s) : ∀ (k : NestedKey) (v : V) (u : Value), Dp X.K H v k.data → RelV v u → NestedIs s.heap k u
  | .none, v, u, h, r => by
    rw [NestedKey.data] at h
    rw [dpNon h] at r
    obtain rfl : u = Value.none := r
    exact .none
  | .num i, v, u, h, r => by
    rw [NestedKey.data] at h
    rw [dpInt h] at r
    obtain ⟨t, rfl⟩ : ∃ t, u = Value.int i t := r
    exact .int i t
  | .text x, v, u, h, r => by
    rw [NestedKey.data] at h
    rw [dpStr h] at r
    obtain ⟨t, rfl⟩ : ∃ t, u = Value.str x t := r
    exact .text x t
  | .tup ks, v, u, h, r => by
    rw [NestedKey.data] at h
    obtain ⟨a, xs, rfl, hs, hr⟩ := dpTup h
    obtain rfl : u = Value.ref a := r
    obtain ⟨its, rv, ⟨o, e, hc, n, hd⟩, _⟩ := I.tuple hs
    exact .tup e hc hd (nestAll I ks xs its hr rv)
theorem nestAll (I : Inv X pins σ H s) : ∀ (ks : List NestedKey) (vs : List V) (us : List Value), DpAll X.K H vs (NestedKey.datas ks) → Vals vs us → NestedAll s.heap ks us
  | [], vs, us, h, r => by
    rw [NestedKey.datas] at h
    cases h
    cases r
    exact .nil
  | k :: ks, vs, us, h, r => by
    rw [NestedKey.datas] at h
    cases h with
    | cons h1 h2 => cases r with
      | cons r1 r2 => exact .cons (nestOf I k _ _ h1 r1) (nestAll I ks _ _ h2 r2)
end
end
mutual
theorem keyNoL : ∀ k : NestedKey, noL k.data = true
  | .none => by rw [NestedKey.data, noL]
  | .num _ => by rw [NestedKey.data, noL]
  | .text _ => by rw [NestedKey.data, noL]
  | .tup ks => by rw [NestedKey.data, noL]; exact keyNoLs ks
theorem keyNoLs : ∀ ks : List NestedKey, noLs (NestedKey.datas ks) = true
  | [] => by rw [NestedKey.datas, noLs]
  | k :: ks => by rw [NestedKey.datas, noLs, keyNoL k, keyNoLs ks]; rfl
end
/-- the dict's own object -/
def DkO (P : Program) (w : World) (D : Addr) (xs : List (NestedKey × Addr × Value)) : HO := .ext fun h => ∃ o es ep, h.get? D = some o ∧ o.ExactDict ∧ o.data = .dict es ep ∧ es.toList = xs.map (entryOfKey (nestedKind P w))
theorem dkO_ok {P : Program} {w : World} {H : Hp} {h : Heap} {D : Addr} {xs : List (NestedKey × Addr × Value)} (dd : h.DictOfH (nestedKind P w) D xs) : ObjOk P w H h D (DkO P w D xs) := by
  obtain ⟨o, es, ep, h1, h2, h3, h4, _⟩ := dd
  refine ⟨⟨o, es, ep, h1, h2, h3, h4⟩, ⟨o, h1⟩, fun g1 g2 p k => ?_⟩
  obtain ⟨o, es, ep, h1, h2, h3, h4⟩ := p
  exact ⟨o, es, ep, k o h1, h2, h3, h4⟩
abbrev DkR (K : PySem.W.Frag) (H : Hp) : NestedKey × V → NestedKey × Addr × Value → Prop := fun p q => p.1 = q.1 ∧ RelV p.2 q.2.2 ∧ p.1.depth ≤ 8 ∧ Dp K H (.ref q.2.1) p.1.data
/-- at D stands a dict of these keys and values -/
def Dk (P : Program) (w : World) (K : PySem.W.Frag) (H : Hp) (D : Addr) (kvs : List (NestedKey × V)) : Prop :=
  ∃ xs, H D = some (DkO P w D xs) ∧ kvs.length ≤ sizeLine ∧ (D == sysModules) = false ∧ (kvs.map (·.1)).Nodup ∧ Paired (DkR K H) kvs xs
theorem pairedMono {α β : Type} {F G : α → β → Prop} (k : ∀ a b, F a b → G a b) : ∀ {xs : List α} {ys : List β}, Paired F xs ys → Paired G xs ys
  | _, _, .nil => .nil
  | _, _, .cons h t => .cons (k _ _ h) (pairedMono k t)
theorem Dk.up {P : Program} {w : World} {K : PySem.W.Frag} {H H' : Hp} {D : Addr} {kvs : List (NestedKey × V)} (h : Dk P w K H D kvs) (e : Ex H H') : Dk P w K H' D kvs := by
  obtain ⟨xs, h1, h2, h3, h4, h5⟩ := h
  exact ⟨xs, e _ _ h1, h2, h3, h4, pairedMono (fun a b q => ⟨q.1, q.2.1, q.2.2.1, dpUp e q.2.2.2⟩) h5⟩
theorem dkKeys {K : PySem.W.Frag} {H : Hp} : ∀ {kvs : List (NestedKey × V)} {xs : List (NestedKey × Addr × Value)}, Paired (DkR K H) kvs xs → xs.map (·.1) = kvs.map (·.1)
  | _, _, .nil => rfl
  | _, _, .cons h t => by rw [List.map_cons, List.map_cons, h.1, dkKeys t]
theorem dkAt {K : PySem.W.Frag} {H : Hp} (k : NestedKey) : ∀ {kvs : List (NestedKey × V)} {xs : List (NestedKey × Addr × Value)}, Paired (DkR K H) kvs xs → RelO (valV kvs k) ((atKey xs k).map (·.2))
  | _, _, .nil => True.intro
  | _, _, @Paired.cons _ _ _ p q ps qs h t => by
    obtain ⟨h1, h2, _⟩ := h
    by_cases e : p.1 = k
    · have e' : q.1 = k := h1.symm.trans e
      have b : atKey (q :: qs) k = some q.2 := by simp [atKey, List.find?_cons, e']
      rw [valV_pos e, b]
      exact h2
    · have e' : ¬ q.1 = k := fun z => e (h1.trans z)
      have b : atKey (q :: qs) k = atKey qs k := by simp [atKey, List.find?_cons, e']
      rw [valV_neg e, b]
      exact dkAt k t
theorem valNone {κ : Type} [DecidableEq κ] {k : κ} : ∀ {kvs : List (κ × V)}, k ∉ kvs.map (·.1) → valV kvs k = none
  | [], _ => rfl
  | p :: r, h => by
    rw [List.map_cons, List.mem_cons, not_or] at h
    rw [valV_neg fun e => h.1 e.symm]
    exact valNone h.2
section
variable {X : Cx} {pins : List (Addr × Obj)} {σ : L2.St} {H : Hp} {s : Shared} {D : Addr} {kvs : List (NestedKey × V)}
theorem Dk.raw (I : Inv X pins σ H s) (h : Dk X.prog X.w X.K H D kvs) : ∃ xs, H D = some (DkO X.prog X.w D xs) ∧ s.heap.DictOfH (nestedKind X.prog X.w) D xs ∧ Paired (DkR X.K H) kvs xs ∧ (D == sysModules) = false ∧ kvs.length ≤ sizeLine ∧ (kvs.map (·.1)).Nodup := by
  obtain ⟨xs, h1, h2, h3, h4, h5⟩ := h
  obtain ⟨⟨o, es, ep, k1, k2, k3, k4⟩, _⟩ := I.hok D _ h1
  refine ⟨xs, h1, ⟨o, es, ep, k1, k2, k3, k4, fun x hx => ?_, by rw [dkKeys h5]; exact h4⟩, h5, h3, h2, h4⟩
  have all : ∀ {kvs : List (NestedKey × V)} {xs : List (NestedKey × Addr × Value)}, Paired (DkR X.K H) kvs xs → ∀ x ∈ xs, (nestedKind X.prog X.w).is s.heap x.1 x.2.1 := fun {kvs xs} p => by
    induction p with
    | nil => exact fun x hx => nomatch hx
    | cons h t ih =>
      intro x hx
      rcases List.mem_cons.mp hx with rfl | hx
      · obtain ⟨q1, _, q3, q4⟩ := h
        rw [q1] at q3 q4
        exact ⟨nestOf I _ _ _ q4 rfl, q3⟩
      · exact ih x hx
  exact all h5 x hx
/-- d[k] = v, k new -/
theorem dkSet {E : Value → Shared → Prop} {Q : Unit → Shared → Prop} {k : NestedKey} {a : Addr} {z : V} {u r : Value} (I : Inv X pins σ H s) (hu : X.A.units + 8 < cLine) (h : Dk X.prog X.w X.K H D kvs) (hk : Dp X.K H (.ref a) k.data) (h8 : k.depth ≤ 8) (hn : k ∉ kvs.map (·.1)) (hz : kvs.length < sizeLine) (ru : RelV (.ref a) u) (rz : RelV z r)
    (q : ∀ s' H', Inv X pins σ H' s' → (∀ b, b ≠ D → H' b = H b) → Dk X.prog X.w X.K H' D (kvs ++ [(k, z)]) → Q () s') : wpAny (model X.prog X.w) X.A (dictSet D u r) Q E s := by
  obtain rfl : u = Value.ref a := ru
  obtain ⟨xs, h1, dd, h5, h3, h2, h4⟩ := h.raw I
  have hk2 : (nestedKind X.prog X.w).is s.heap k a := ⟨nestOf I k _ _ hk rfl, h8⟩
  have hlen : kvs.length = xs.length := Paired.length h5
  refine wpAny_dictSet_heap (knd := nestedKind X.prog X.w) (show X.A.units + 8 < cLine from hu) hk2 dd (fun h' dd' hs => ?_) (by rw [← hlen]; exact Nat.le_of_lt hz)
  have kn : k ∉ xs.map (·.1) := by
    rw [dkKeys h5]
    exact hn
  have an : atKey xs k = none := by
    have q1 := dkAt k h5
    rw [valNone hn] at q1
    cases e : atKey xs k with
    | none => rfl
    | some p => rw [e] at q1; exact q1.elim
  rw [storedH_new an] at dd'
  have mu : Mut (H D) := by
    rw [h1]
    exact True.intro
  have J : Inv X pins σ (upd H D (DkO X.prog X.w D (xs ++ [(k, a, r)]))) { s with heap := h', toks := s.toks + (nestedKind X.prog X.w).draws k } := d_write I mu hs (by obtain ⟨o, _, _, e, _⟩ := dd'; exact ⟨o, e⟩) (dkO_ok dd')
  have tups : Tups H (upd H D (DkO X.prog X.w D (xs ++ [(k, a, r)]))) := fun b ys rd => by
    have hne : b ≠ D := fun e => by
      subst e
      rcases rd with rd | ⟨o, rd⟩ <;> (rw [h1] at rd; cases rd)
    rcases rd with rd | ⟨o, rd⟩
    · exact .inl ((upd_ne hne).trans rd)
    · exact .inr ⟨o, (upd_ne hne).trans rd⟩
  refine q _ _ J (fun b hb => upd_ne hb) ⟨_, upd_same, ?_, h3, ?_, ?_⟩
  · rw [List.length_append, List.length_singleton]
    exact hz
  · rw [List.map_append, List.nodup_append]
    refine ⟨h4, by simp, fun x hx y hy => ?_⟩
    rw [List.map_singleton, List.mem_singleton] at hy
    have hy : y = k := hy
    exact fun e => hn (by rw [← hy, ← e]; exact hx)
  · exact (pairedMono (fun p q z => ⟨z.1, z.2.1, z.2.2.1, dpTups tups z.2.2.2 (keyNoL _)⟩) h5).snoc ⟨rfl, rz, h8, dpTups tups hk (keyNoL _)⟩
end
/-- x in d, x not in d -/
def rInK (P : Program) (w : World) (K : PySem.W.Frag) (neg : Bool) : R2 := fun x y H Q => ∃ (D a : Addr) (kvs : List (NestedKey × V)) (k : NestedKey), x = .ref a ∧ y = .ref D ∧ Dk P w K H D kvs ∧ k.depth ≤ 8 ∧ Dp K H (.ref a) k.data ∧ Q (.bl (if neg then !(valV kvs k).isSome else (valV kvs k).isSome)) H
/-- d[x] -/
def rIxK (P : Program) (w : World) (K : PySem.W.Frag) : R2 := fun x y H Q => ∃ (D a : Addr) (kvs : List (NestedKey × V)) (k : NestedKey) (v : V), x = .ref D ∧ y = .ref a ∧ Dk P w K H D kvs ∧ k.depth ≤ 8 ∧ Dp K H (.ref a) k.data ∧ valV kvs k = some v ∧ Q v H
section
variable {X : Cx}
theorem op_notInK (hu : X.A.units + 10 < cLine) : OpR X (compareOp .NotIn) (rInK X.prog X.w X.K true) := by
  intro pins s σ H x y v u Q I rx ry h
  obtain ⟨D, a, kvs, k, rfl, rfl, hd, h8, hk, q⟩ := h
  obtain rfl : v = Value.ref a := rx
  obtain rfl : u = Value.ref D := ry
  obtain ⟨xs, h1, dd, h5, h3, h2, h4⟩ := hd.raw I
  show wpAny _ _ (contains (.ref D) (.ref a) >>= fun b => pure (Value.bool (!b))) _ X.xe s
  have e : (atKey xs k).isSome = (valV kvs k).isSome := by
    have q1 := RelO.isSome_eq (dkAt k h5)
    rw [q1, Option.isSome_map]
  refine wpAny_bind (wpAny_contains_heap (knd := nestedKind X.prog X.w) (show X.A.units + 1 + 8 < cLine by omega) ⟨nestOf I k _ _ hk rfl, h8⟩ h3 dd (wpAny_pure ⟨_, H, I.tok _, ?_, q⟩))
  show Value.bool (!(atKey xs k).isSome) = Value.bool _
  rw [e]
  rfl
theorem ix_K (hu : X.A.units + 10 < cLine) : IxR X (rIxK X.prog X.w X.K) := by
  intro value slice pins s σ H x y v u Q I rx ry h hs
  obtain ⟨D, a, kvs, k, z, rfl, rfl, hd, h8, hk, hv, q⟩ := h
  obtain rfl : v = Value.ref D := rx
  obtain rfl : u = Value.ref a := ry
  obtain ⟨xs, h1, dd, h5, h3, h2, h4⟩ := hd.raw I
  obtain ⟨w', hw, rw'⟩ := RelO.some_of (v := z) (o := (atKey xs k).map (·.2)) (by rw [← hv]; exact dkAt k h5)
  obtain ⟨p, hp, hp2⟩ := Option.map_eq_some_iff.mp hw
  refine subscriptTail_builtinR (x := w') dd.typeIs PySem.F.slot_dict_getitem.lookup (wpAny_getItem_heap (knd := nestedKind X.prog X.w) (show X.A.units + 1 + 8 < cLine by omega) ⟨nestOf I k _ _ hk rfl, h8⟩ dd hp ?_) hs
  rw [hp2]
  exact ⟨rfl, z, H, I.tok _, rw', q⟩
end
end Dt

/-! {k: v for ..}, the keys tuples of tuples. -/
namespace Dt
open PySem PySem.Spec PyProof.Rows L2 Evl

/-- {k: v for target in iter}: D the new dict -/
def tDcK (P : Program) (w : World) (K : PySem.W.Frag) (wi : TI) (g : TG) (tk tv : TE) (vs : List Nat) : TE := fun σ H Q => wi σ H fun J H1 => ∀ D H2, H1 D = none → Ex H1 H2 → Dk P w K H2 D [] → ∃ W : Nat → Nat → Hp → Prop, (∃ m, W 0 m H2) ∧ ∀ i m H, W i m H →
  (J.stop i H ∧ Q (.ref D) H) ∨ (J.go i H ∧ ∃ Nx : Hp → Prop, (∀ H', Nx H' → ∃ m', m' < m ∧ W (i + 1) m' H') ∧ ∀ x H', J.yld i H x H' → g x (wipe σ vs) H' fun σ2 H3 => wipe σ2 vs = wipe σ vs ∧ tk σ2 H3 fun y H4 => tv σ2 H4 fun z H5 =>
    ∃ (kvs : List (NestedKey × V)) (k : NestedKey) (a : Addr), y = .ref a ∧ Dk P w K H5 D kvs ∧ Dp K H5 (.ref a) k.data ∧ k.depth ≤ 8 ∧ k ∉ kvs.map (·.1) ∧ kvs.length < sizeLine ∧ ∀ H6, (∀ b, b ≠ D → H6 b = H5 b) → Dk P w K H6 D (kvs ++ [(k, z)]) → Nx H6)
section
variable {X : Cx} {kx vx tg iter : Expr} {scope : Scope} {own : List (Str × Nat)} {wi : TI} {g : TG} {tk tv : TE}
theorem dcKCore {pins : List (Addr × Obj)} {s : Shared} {σ : L2.St} {H : Hp} {Q : VK} {pos pos' : Pos} {use : Option (Value → Sem Unit)} {Qf : Value → Shared → Prop} (calm : X.calm = true) (nod : X.N.Nodup) (I : Inv X pins σ H s) (hu : X.A.units + 8 < cLine) (hi : PI X tg iter wi) (ok : BlkOk X.N X.env.scope scope own)
    (hg : ∀ (s : Shared) (H : Hp) (C : Addr) (cl : List (Str × Addr)) (fp : List Addr), PG (X.blk s H scope (compEnvC scope cl C X.env) fp) tg g) (hk : ∀ (s : Shared) (H : Hp) (C : Addr) (cl : List (Str × Addr)) (fp : List Addr), PE (X.blk s H scope (compEnvC scope cl C X.env) fp) kx tk) (hv : ∀ (s : Shared) (H : Hp) (C : Addr) (cl : List (Str × Addr)) (fp : List Addr), PE (X.blk s H scope (compEnvC scope cl C X.env) fp) vx tv)
    (fold : ∀ x, foldedSetIterable iter X.env x = pure x) (h : tDcK X.prog X.w X.K wi g tk tv (own.map (·.2)) σ H Q)
    (fin : ∀ D C s' m H', Inv X pins σ H' s' → Q (.ref D) H' → s'.heap.Ns C m → FpOk X pins H' C → compPost (model X.prog X.w) X.A X.xe use Qf (.ref D) C (.ok .next) s') :
    wpAny (model X.prog X.w) X.A (comprehension (.DictComp kx vx [⟨tg, iter, [], 0⟩] scope pos) scope X.env pos' newDict false (eval iter X.env) use) Qf X.xe s := by
  have frees : ∀ y ∈ scope.names, y.2 = .free → ∃ c, X.env.cells.lookup y.1 = some c := fun y hy e => (ok.free y hy e).elim (fun z => I.ok.has _ (.inl z)) fun z => I.ok.has _ (.inr z)
  refine wpAny_comprehension_free (use := use) rfl fold (closure_ok frees) ok.kind (fun y hy e => by rw [ok.uniq y hy, e]) (thn (hi.run pins s σ H _ I h) fun xv t1 hx => thn hx fun itv t2 h2 => ?_)
  obtain ⟨it, fp, tn, J, Hw, rfl, I2, T, st2, f2, q⟩ := h2
  refine wpAny_newObj_type (newEnv_comp ?_)
  generalize hD : t2.heap.objs.size = D
  have free : Hw D = none := I2.hok.fresh (Nat.le_of_eq hD)
  have dd0 : (t2.heap.push { cls := .type "dict", data := .dict #[] }).DictOfH (nestedKind X.prog X.w) D [] := by rw [← hD]; exact Heap.DictOfH.new _
  have dsys : (D == sysModules) = false := by rw [← hD]; exact beq_eq_false_iff_ne.mpr (Ne.symm (Nat.ne_of_lt I2.big))
  obtain ⟨W, ⟨m0, w0⟩, turn⟩ := q D (upd Hw D (DkO X.prog X.w D [])) free (Ex.new free) ⟨[], upd_same, Nat.zero_le _, dsys, List.nodup_nil, .nil⟩
  generalize ht3 : ({ t2 with heap := t2.heap.push { cls := .type "dict", data := .dict #[] } } : Shared) = t3
  have hp3 : t3.heap = t2.heap.push { cls := .type "dict", data := .dict #[] } := by rw [← ht3]
  have I3 : Inv X pins σ (upd Hw D (DkO X.prog X.w D [])) t3 := by
    rw [← ht3]
    exact I2.laid (t' := t2.toks) (fun b o e => Heap.get?_push_of_some _ e) (Nat.le_of_eq hD) (dkO_ok dd0)
  have low : ∀ b ∈ fp, b < t2.heap.objs.size := fun b hb => let ⟨_, e, _⟩ := T.obj _ _ st2 b hb; Heap.lt_size e
  have f3 : ∀ b ∈ fp, FpOk X pins (upd Hw D (DkO X.prog X.w D [])) b ∧ b < t3.heap.objs.size := fun b hb => ⟨⟨(upd_ne (by rw [← hD]; exact Nat.ne_of_lt (low b hb))).trans (f2 b hb).1, (f2 b hb).2⟩, by rw [hp3, Heap.size_push]; exact Nat.lt_succ_of_lt (low b hb)⟩
  have st3 : tn 0 t3.heap := T.keep _ _ _ st2 fun b _ o e => by rw [hp3]; exact Heap.get?_push_of_some _ e
  have I4 := block_start I3 ok nod f3
  generalize hcl : cellsFrom (t3.heap.objs.size + 1) scope.names (cloFrom X.env.cells scope.names []) = cl at I4
  generalize hH3 : upd Hw D (DkO X.prog X.w D []) = H3 at I3 I4 w0 f3
  have pg := hg t3 H3 t3.heap.objs.size cl fp
  have pk := hk t3 H3 t3.heap.objs.size cl fp
  have pv := hv t3 H3 t3.heap.objs.size cl fp
  show codeAny _ _ (.compStart (.DictComp kx vx [⟨tg, iter, [], 0⟩] scope pos) 0 (.ref it) (.ref D) (compEnvC scope cl t3.heap.objs.size X.env)) (compPost (model X.prog X.w) X.A X.xe use Qf (.ref D) t3.heap.objs.size) { t3 with heap := pushCells (t3.heap.push { cls := .type "dict", data := .dict #[] }) scope.names }
  have nofp : ∀ b ∈ fp, H3 b = none := fun b hb => (f3 b hb).1.1
  generalize hce : compEnvC scope cl t3.heap.objs.size X.env = ce at I4 pg pk pv ⊢
  have cL : ce.locals = t3.heap.objs.size := by subst hce; rfl
  generalize ht4 : ({ t3 with heap := pushCells (t3.heap.push { cls := .type "dict", data := .dict #[] }) scope.names } : Shared) = t4 at I4 ⊢
  have st4 : tn 0 t4.heap := T.keep _ _ _ st3 fun b _ o e => by rw [← ht4]; exact pushCells_keeps _ _ _ _ (Heap.get?_push_of_some _ e)
  have stat : ∀ {σ' : L2.St} {H' : Hp} {s' : Shared}, Inv (X.blk t3 H3 scope ce fp) [] σ' H' s' → (∀ b ∈ fp, H' b = none) → ∀ b ∈ fp, FpOk (X.blk t3 H3 scope ce fp) [] H' b := fun {σ' H' s'} J' hn b hb => ⟨hn b hb, (J'.ok.exf b hb).1, J'.ok.exfs b hb, .inl hb, fun x c e => (J'.ok.exf b hb).2 x c e, fun p hp => absurd (show p ∈ ([] : List (Addr × Obj)) ++ [] from hp) (by simp)⟩
  have turns : codeAny (model X.prog X.w) X.A (.compLoop (.DictComp kx vx [⟨tg, iter, [], 0⟩] scope pos) 0 (.ref it) (.ref D) ce) (compPost (model X.prog X.w) X.A X.xe use Qf (.ref D) t3.heap.objs.size) t4 := ?loop
  exact codeAny_compStart_dict turns (T.self X.A 0 _ _ _ st4 turns)
  refine compLoop_anyD (fun n s' => ∃ i H', Inv (X.blk t3 H3 scope ce fp) [] (wipe σ (own.map (·.2))) H' s' ∧ tn i s'.heap ∧ (∀ b ∈ fp, H' b = none) ∧ W i n H') (fun n s5 w5 => ?_) m0 ⟨0, H3, I4, st4, nofp, w0⟩
  · obtain ⟨i, H5, I5, st5, n5, w5⟩ := w5
    rcases turn i n H5 w5 with ⟨stop, qq⟩ | ⟨go, Nx, hNx, step⟩
    · refine thnF (T.done (X.blk t3 H3 scope ce fp) rfl rfl rfl calm i [] s5 _ H5 (fun _ _ => False) I5 (stat I5 n5) st5 stop) fun r s6 ⟨hr, I6⟩ => ?_
      subst hr
      have I7 : Inv X pins σ H5 s6 := I3.call' (ch := fp) I6.os I6.base I6.hok I6.bare fun b hb => let z := (f3 b hb).1.2; ⟨z.2.2.1, z.1, z.2.2.2.1, z.2.2.2.2⟩
      have nC : H5 t3.heap.objs.size = none := by rw [← cL]; exact I6.free
      obtain ⟨m, hn, _⟩ := I6.loc
      exact fin D t3.heap.objs.size s6 m H5 I7 qq (by rw [← cL]; exact hn) (I3.fpOk (Nat.le_refl _) nC)
    · refine thnF (T.item (X.blk t3 H3 scope ce fp) rfl rfl rfl calm i [] s5 _ H5 (fun _ _ => False) I5 (stat I5 n5) st5 go) fun r s6 ⟨u, hr, h6⟩ => ?_
      subst hr
      refine thnF h6 fun _ s7 ⟨x, H7, I7, r7, y7, st7, n7⟩ => ?_
      refine thnF (pg.run _ s7 _ H7 x u _ (I7.pinned (stat I7 n7) (T.obj _ _ st7)) r7 (step x H7 y7)) fun _ s8 ⟨σ8, H8, I8, hw8, q8⟩ => ?_
      show wpAny _ _ (pure true) _ _ s8
      refine wpAny_pure ?_
      show wpAny _ _ (eval kx ce) _ _ s8
      refine thnF (pk.run _ s8 σ8 H8 _ I8 q8) fun u1 s10 ⟨yk, H10, I10, r10, q10⟩ => ?_
      refine thnF (pv.run _ s10 σ8 H10 _ I10 q10) fun u2 s11 ⟨yv, H11, I11, r11, kvs, k, a, ek, hDk, hkd, h8, hnk, hz, nx⟩ => ?_
      subst ek
      refine dkSet (X := X.blk t3 H3 scope ce fp) I11 hu hDk hkd h8 hnk hz r10 r11 fun s12 H12 I12 same dk12 => ?_
      obtain ⟨m', hm, w'⟩ := hNx H12 (nx H12 same dk12)
      have pin' : ∀ b ∈ fp, ∀ o, s7.heap.get? b = some o → s12.heap.get? b = some o ∧ H12 b = none := fun b hb o e => let z := I12.pin (b, o) (List.mem_append_right _ (List.mem_append_right _ (mem_pinsAt hb e))); ⟨z.1, z.2.1⟩
      refine ⟨m', hm, i + 1, H12, (I12.unpinned (pins := [])).weak (by rw [← hw8, wipe_length]) (fun j v e => by rw [← hw8] at e; exact (wipe_some e).1), T.keep _ _ _ st7 fun b hb o e => (pin' b hb o e).1, fun b hb => ?_, w'⟩
      obtain ⟨o, e, _⟩ := T.obj _ _ st7 b hb
      exact (pin' b hb o e).2
/-- y = {..} on one line, y a local -/
theorem ps_setDcK {i : Nat} {y : Str} {py pos spos : Pos} (calm : X.calm = true) (nod : X.N.Nodup) (hy : X.N[i]? = some y) (hyl : X.env.scope.names.lookup y = some .local) (hu : X.A.units + 8 < cLine)
    (hsw : swapsWith (.DictComp kx vx [⟨tg, iter, [], 0⟩] scope pos) (some (.Name y py)) spos.line X.env = pure true) (hi : PI X tg iter wi) (ok : BlkOk X.N X.env.scope scope own)
    (hg : ∀ (s : Shared) (H : Hp) (C : Addr) (cl : List (Str × Addr)) (fp : List Addr), PG (X.blk s H scope (compEnvC scope cl C X.env) fp) tg g) (hk : ∀ (s : Shared) (H : Hp) (C : Addr) (cl : List (Str × Addr)) (fp : List Addr), PE (X.blk s H scope (compEnvC scope cl C X.env) fp) kx tk) (hv : ∀ (s : Shared) (H : Hp) (C : Addr) (cl : List (Str × Addr)) (fp : List Addr), PE (X.blk s H scope (compEnvC scope cl C X.env) fp) vx tv)
    (fold : ∀ x, foldedSetIterable iter X.env x = pure x := by intro _; rfl) :
    PS X (.Assign [.Name y py] (.DictComp kx vx [⟨tg, iter, [], 0⟩] scope pos) spos) (tAsg (tDcK X.prog X.w X.K wi g tk tv (own.map (·.2))) (gName i)) := by
  refine ⟨fun pins s σ H D I h => ?_⟩
  rw [exec_Assign_Name_used _ _ _ _ hsw]
  refine wpAny_bind (wpAny_standAt (wpAny_bind ?_))
  show wpAny _ X.A (do let _ ← comprehension (.DictComp kx vx [⟨tg, iter, [], 0⟩] scope pos) scope X.env (firstIterPos [⟨tg, iter, [], 0⟩] pos) newDict false (eval iter X.env) (some (assign (.Name y py) X.env))) _ _ s
  refine wpAny_bind (thn (dcKCore (Q := fun x H1 => gName i x σ H1 D.nx) (Qf := fun _ s' => SP X pins D .next s') calm nod I hu hi ok hg hk hv fold h fun L C s' m H' J qq hn f => ?_) fun _ s' hq => wpAny_pure (wpAny_pure hq))
  show wpAny _ _ (assign (.Name y py) X.env (.ref L)) _ _ _
  obtain ⟨f0, f1, f2, f3, f4, f5⟩ := f
  refine wpAny_assign_Name (store_ok2 (v := V.ref L) J nod hy (.inl hyl) rfl (fun s2 I2 ⟨a, sb, ha⟩ => ⟨m, hn.sameBut sb ?_, fun h3 sb3 => ⟨_, H', I2.turned (t' := s2.toks) (fun b o hb e => (sb3.2 b hb).trans e) f0 f1 f3 f4 f5, qq⟩⟩) (.inr hyl))
  rcases ha with z | z
  · rw [z]; exact f1
  · exact fun e => f4 y a z e.symm
theorem swDict {gs : List Comprehension} {pos py : Pos} {y : Str} {l : Nat} {env : Env} (hk : env.scope.kind = .function) (hy : env.scope.names.lookup y = some .local) (hl : (py.line == pos.line) = true)
    (ha : (scope.names.any fun (n, k) => n == y && (k == .local || k == .cell)) = false) : swapsWith (.DictComp kx vx gs scope pos) (some (.Name y py)) l env = pure true := by
  have e1 : env.kindOf y = some .local := hy
  have e2 : env.blockKind = .function := by unfold Env.blockKind; rw [hk]; rfl
  unfold swapsWith
  simp only [e2, e1, ha, Expr.pos, hl]
  rfl
end
/-! by data -/
section
variable {P : Program} {w : World} {K : PySem.W.Frag} {σ : L2.St} {H H' : Hp} {wi : TI} {g : TG} {tk tv : TE} {D : Ends} {tz : TS}
/-- y = {key: value for ..}: the keys apart -/
theorem qDcK {α : Type} (L : List α) (enc : α → PyData) (kf : α → NestedKey) (vf : α → V) {vs : List Nat} {i : Nat} (h : IdD K wi σ H (L.map enc)) (hz : L.length ≤ 100000) (nd : (L.map kf).Nodup) (h8 : ∀ a ∈ L, (kf a).depth ≤ 8) (htup : ∀ a ∈ L, ∃ ks, kf a = .tup ks)
    (hb : ∀ a ∈ L, ∀ H1 x, Ex H H1 → Dp K H1 x (enc a) → ∃ σ2, (∀ Q : L2.St → Hp → Prop, Q σ2 H1 → g x (wipe σ vs) H1 Q) ∧ wipe σ2 vs = wipe σ vs ∧ EvD K tk σ2 H1 (kf a).data ∧ Ev tv σ2 H1 (vf a))
    (k : ∀ p H1, H p = none → Ex H H1 → Dk P w K H1 p (L.map fun a => (kf a, vf a)) → tz D (σ.set i (some (.ref p))) H1) : tSeq (tAsg (tDcK P w K wi g tk tv vs) (gName i)) tz D σ H := h H (Ex.refl H) _ fun J H2 e2 yl => by
  intro q H3 hq e3 dk0
  refine ⟨fun i m H' => m = L.length - i ∧ i ≤ L.length ∧ Ex H2 H' ∧ Dk P w K H' q ((L.take i).map fun a => (kf a, vf a)), ⟨L.length, by omega, Nat.zero_le _, e3, dk0⟩, ?_⟩
  rintro i m H' ⟨rfl, hi, ex, dk⟩
  obtain ⟨y1, y2⟩ := yl H' ex i
  by_cases hlt : i < L.length
  · have hget : L[i]? = some L[i] := List.getElem?_eq_getElem hlt
    have hm : L[i] ∈ L := List.getElem_mem hlt
    obtain ⟨go, yy⟩ := y1 (enc L[i]) (by rw [List.getElem?_map, hget]; rfl)
    refine .inr ⟨go, fun H6 => Ex H2 H6 ∧ Dk P w K H6 q ((L.take (i + 1)).map fun a => (kf a, vf a)), fun H6 z => ⟨L.length - (i + 1), by omega, rfl, hlt, z.1, z.2⟩, fun x H4 hy => ?_⟩
    obtain ⟨ex4, hx⟩ := yy x H4 hy
    obtain ⟨σ2, hg, hw, hk, hv⟩ := hb L[i] hm H4 x ((e2.trans ex).trans ex4) hx
    refine hg _ ⟨hw, hk H4 (Ex.refl _) _ fun y H5 ex5 hy5 => hv H5 ex5 _ fun H6 ex6 => ?_⟩
    obtain ⟨ks, eks⟩ := htup L[i] hm
    have hy6 := dpUp ex6 hy5
    obtain ⟨a, rfl⟩ : ∃ a, y = V.ref a := by
      rw [eks, NestedKey.data] at hy5
      obtain ⟨a, _, rfl, _⟩ := dpTup hy5
      exact ⟨a, rfl⟩
    have ex46 := (ex4.trans ex5).trans ex6
    refine ⟨_, kf L[i], a, rfl, dk.up ex46, hy6, h8 _ hm, ?_, ?_, fun H7 same dk7 => ⟨fun b o e => ?_, ?_⟩⟩
    · intro hin
      rw [List.map_map] at hin
      obtain ⟨b, hb1, hb2⟩ := List.mem_map.mp hin
      obtain ⟨j, hj⟩ := List.mem_iff_getElem?.mp hb1
      rw [List.getElem?_take] at hj
      split at hj
      · rename_i hji
        have hj2 : (L.map kf)[j]? = (L.map kf)[i]? := by
          rw [List.getElem?_map, List.getElem?_map, hj, hget]
          exact congrArg some hb2
        have hjl : j < (L.map kf).length := by rw [List.length_map]; omega
        have := (List.getElem?_inj hjl nd).mp hj2
        omega
      · cases hj
    · rw [List.length_map]
      exact Nat.lt_of_le_of_lt (List.length_take_le _ _) (sz_lt (n := i) (by omega))
    · have hbq : b ≠ q := fun z => by
        rw [z, hq] at e
        cases e
      rw [same b hbq]
      exact ex46 _ _ (ex _ _ e)
    · rw [List.take_add_one, hget, List.map_append]
      exact dk7
  · have ei : i = L.length := by omega
    rw [ei, List.take_length] at dk
    exact .inl ⟨y2 (by rw [List.getElem?_map, List.getElem?_eq_none (by omega)]; rfl), k q H' (fresh_back e2 hq) (e2.trans ex) dk⟩
/-- x not in d | d[x] -/
theorem etNotInK {ta tb : TE} {p : Addr} {kvs : List (NestedKey × V)} {ks : List NestedKey} {j : Nat} (ha : EvD K ta σ H (NestedKey.tup ks).data) (h8 : (NestedKey.tup ks).depth ≤ 8) (hj : σ[j]? = some (some (.ref p))) (hd : Dk P w K H p kvs) : Ev (tOp (rInK P w K true) ta (tVar j)) σ H (.bl (!(valV kvs (NestedKey.tup ks)).isSome)) := fun H1 e Q q =>
  ha H1 e _ fun x H2 e2 hx => ⟨.ref p, hj, by
    have hx2 := hx
    rw [NestedKey.data] at hx2
    obtain ⟨a, _, rfl, _⟩ := dpTup hx2
    exact ⟨p, a, kvs, _, rfl, rfl, hd.up (e.trans e2), h8, hx, q H2 e2⟩⟩
theorem evIxK {tb : TE} {p : Addr} {kvs : List (NestedKey × V)} {ks : List NestedKey} {j : Nat} {v : V} (hb : EvD K tb σ H (NestedKey.tup ks).data) (h8 : (NestedKey.tup ks).depth ≤ 8) (hj : σ[j]? = some (some (.ref p))) (hd : Dk P w K H p kvs) (hv : valV kvs (NestedKey.tup ks) = some v) : Ev (tOp (rIxK P w K) (tVar j) tb) σ H v := fun H1 e Q q =>
  ⟨.ref p, hj, hb H1 e _ fun x H2 e2 hx => by
    have hx2 := hx
    rw [NestedKey.data] at hx2
    obtain ⟨a, _, rfl, _⟩ := dpTup hx2
    exact ⟨p, a, kvs, _, v, rfl, rfl, hd.up (e.trans e2), h8, hx, hv, q H2 e2⟩⟩
end
end Dt

/-! Rules of data, the first part. -/
namespace Dt
open PySem L2 Evl PyProof.Rows
open PySem L2 Evl PyProof.Rows

section
variable {X : Cx}
theorem call_lenR : CallR X (.builtin "len") (lenR X.K) := call_len
theorem call_listR : CallR X (.type "list") (rListS X.K) := call_list_of
theorem op_addS : OpR X (binaryOp .Add) rAddS := op_add_str
theorem pe_joinR {o e : Expr} {to te : TE} {apos pos : Pos} (ho : PE X o to) (he : PE X e te) (hbase : attributeBase o "join" X.env (eval o X.env) = eval o X.env := by rfl) (hline : (apos.endLine == pos.line) = true := by rfl)
    (hs : starEach [e] X.env = [(false, eval e X.env)] := by rfl) : PE X (.Call (.Attribute o "join" apos) [e] [] pos) (tM1 (rJoin X.K) to te) := pe_join ho he hs hbase hline
end
section
variable {K : PySem.W.Frag} {σ : L2.St} {H H' : Hp} {ta tb te tx : TE} {t u : TT} {d e : PyData}
theorem edEqI {i j : Int} (ha : EvD K ta σ H (.int i)) (hb : EvD K tb σ H (.int j)) : EvD K (tOp (rEqD K) ta tb) σ H (.bool (decide (i = j))) := edB (ev_is (evEq ha hb rfl rfl) (by
  unfold PyData.eqv
  rfl))
theorem edNeI {i j : Int} (ha : EvD K ta σ H (.int i)) (hb : EvD K tb σ H (.int j)) : EvD K (tOp (rNeD K) ta tb) σ H (.bool (!decide (i = j))) := edB (ev_is (evNe ha hb rfl rfl) (by
  unfold PyData.eqv
  rfl))
theorem edLt {i j : Int} (ha : EvD K ta σ H (.int i)) (hb : EvD K tb σ H (.int j)) : EvD K (tOp (rI0 fun i j => .bl (decide (i < j))) ta tb) σ H (.bool (decide (i < j))) := edB (ev_op (evI ha) (evI hb) rv_I0)
theorem edGt {i j : Int} (ha : EvD K ta σ H (.int i)) (hb : EvD K tb σ H (.int j)) : EvD K (tOp (rI0 fun i j => .bl (decide (j < i))) ta tb) σ H (.bool (decide (j < i))) := edB (ev_op (evI ha) (evI hb) rv_I0)
theorem edLe {i j : Int} (ha : EvD K ta σ H (.int i)) (hb : EvD K tb σ H (.int j)) : EvD K (tOp (rI0 fun i j => .bl (decide (i ≤ j))) ta tb) σ H (.bool (decide (i ≤ j))) := edB (ev_op (evI ha) (evI hb) rv_I0)
theorem edGe {i j : Int} (ha : EvD K ta σ H (.int i)) (hb : EvD K tb σ H (.int j)) : EvD K (tOp (rI0 fun i j => .bl (decide (j ≤ i))) ta tb) σ H (.bool (decide (j ≤ i))) := edB (ev_op (evI ha) (evI hb) rv_I0)
theorem edAnd {a b : Bool} (h1 : EvD K ta σ H (.bool a)) (h2 : a = true → EvD K tb σ H (.bool b)) : EvD K (tAndV ta tb) σ H (.bool (a && b)) := edB (ev_andV (evB h1) fun h => evB (h2 h))
theorem edNot {a : Bool} (h1 : EvD K ta σ H (.bool a)) : EvD K (tNotV ta) σ H (.bool (!a)) := edB (ev_notV (evB h1))
theorem etV {b : Bool} (h : EvD K te σ H (.bool b)) : EvT (tB te) σ H b := et_B (evB h)
theorem etC {b : Bool} (h : EvD K te σ H (.bool b)) : EvT (tTest te) σ H b := et_test (evB h)
theorem edChain {r r' : R2} {x y z : V} {a b : Bool} (ha : Ev ta σ H x) (hb : Ev tb σ H y) (hc : Ev te σ H z) (h1 : ∀ H1, RV r x y H1 (.bl a)) (h2 : ∀ H1, RV r' y z H1 (.bl b)) : EvD K (tChain r r' ta tb te) σ H (.bool (a && b)) := edB fun H1 e Q q =>
  ha H1 e _ fun H2 e2 => hb H2 (e.trans e2) _ fun H3 e3 => h1 H3 H3 (Ex.refl _) _ fun H4 e4 => ⟨a, rfl, by
    cases a with
    | true => exact hc H4 (((e.trans e2).trans e3).trans e4) _ fun H5 e5 => h2 H5 H5 (Ex.refl _) _ fun H6 e6 => q H6 ((((e2.trans e3).trans e4).trans e5).trans e6)
    | false => exact q H4 ((e2.trans e3).trans e4)⟩
/-- a literal that is in, that is not in -/
theorem edIn {neg b : Bool} {ds : List PyData} {w : V} {ws : List V} (ha : EvD K ta σ H d) (hb : EvD K tb σ H (.tuple ds)) (hw : fV d = some w) (hs : ds.map fV = ws.map some) (f1 : flatV w = true) (f2 : ws.all flatV = true) (hr : (if neg then !inV w ws else inV w ws) = b) :
    EvD K (tOp (rIn K neg) ta tb) σ H (.bool b) := edB (ev_is (evInT ha hb hw hs f1 f2) (by rw [hr]))
theorem edInL {neg b : Bool} {ds : List PyData} {w : V} {ws : List V} (ha : EvD K ta σ H d) (hb : EvD K tb σ H (.list ds)) (hw : fV d = some w) (hs : ds.map fV = ws.map some) (f1 : flatV w = true) (f2 : ws.all flatV = true) (hr : (if neg then !inV w ws else inV w ws) = b) :
    EvD K (tOp (rIn K neg) ta tb) σ H (.bool b) := edB (ev_is (evInL ha hb hw hs f1 f2) (by rw [hr]))
theorem orFF (h1 : EvT t σ H false) (h2 : EvT u σ H false) : EvT (tOr t u) σ H false := et_is (et_or h1 fun _ => h2) rfl
theorem notT (h1 : EvT t σ H true) : EvT (tNot t) σ H false := et_not h1
/-- an if whose test is false, and what follows it -/
theorem qSkip {D : Ends} {tu tz : TS} (h : EvT t σ H false) (k : ∀ H1, Ex H H1 → tz D σ H1) : tSeq (tIfS t tu tNext) tz D σ H := h H (Ex.refl H) _ fun H1 e => k H1 e
theorem sSkip {D : Ends} {tu : TS} (h : EvT t σ H false) (k : ∀ H1, Ex H H1 → D.nx σ H1) : tIfS t tu tNext D σ H := h H (Ex.refl H) _ fun H1 e => k H1 e
theorem allT {α : Type} (L : List α) : (L.map fun _ => true).all id = true := by
  rw [List.all_map, List.all_eq_true]
  exact fun _ _ => rfl
theorem edAllT {α : Type} {L : List α} (h : EvN K te σ H (L.map fun _ => .bool true)) : EvD K (tCB (rAll K) (tCons te tNil)) σ H (.bool true) := by
  have k := edAll (bs := L.map fun _ => true) (edN (enIs h (by rw [List.map_map]; rfl)))
  rw [allT] at k
  exact k
end
theorem letD {K : PySem.W.Frag} {H : Hp} {a : Addr} (h : SqT K H a [.str "a", .str "b", .str "c"]) : Dp K H (.ref a) (.tuple [.str "a", .str "b", .str "c"]) := .tup h (.cons (.str _) (.cons (.str _) (.cons (.str _) .nil)))
theorem inLet {c : Nat} (h : Code c) : inV (.str ⟨#[c]⟩) [.str "a", .str "b", .str "c"] = true := by
  rcases h with rfl | rfl | rfl <;> decide +kernel

section
variable {P : Program} {w : World} {K : PySem.W.Frag} {mg : Str → Option Value} {base : Heap}

theorem kII : kitB "int" "int" = some true := by decide +kernel
theorem kIB : kitB "int" "bool" = some false := by decide +kernel
theorem kSS : kitB "str" "str" = some true := by decide +kernel
theorem kLL : kitB "list" "list" = some true := by decide +kernel
theorem kTT : kitB "tuple" "tuple" = some true := by decide +kernel
/-! is_number, is_letter -/
def P_is_number : List PyData → PyData → Prop := fun ds d => ∃ i : Int, ds = [.int i] ∧ d = .bool true
def P_is_letter : List PyData → PyData → Prop := fun ds d => ∃ c, Code c ∧ ds = [.str ⟨#[c]⟩] ∧ d = .bool true
/-! is_row -/
def P_is_row : List PyData → PyData → Prop := fun ds d => ∃ n g r, Tri n g ∧ r < n ∧ ds = [.str (rowS n g r), .int (n - r : Nat)] ∧ d = .bool true
end

open PySem L2 Evl PyProof.Rows
section
variable {P : Program} {w : World} {K : PySem.W.Frag} {mg : Str → Option Value} {base : Heap}

theorem mapIdxRange {α : Type} (n : Nat) (f : Nat → PyData) (h : Nat → PyData → α) : ((List.range n).map f).mapIdx h = (List.range n).map fun i => h i (f i) := by
  refine List.ext_getElem? fun i => ?_
  rw [List.getElem?_mapIdx, List.getElem?_map, List.getElem?_map]
  by_cases hi : i < n
  · rw [List.getElem?_range hi]
    rfl
  · rw [List.getElem?_eq_none (by simpa using hi)]
    rfl

/-! is_triangle, is_spot -/
def P_is_triangle : List PyData → PyData → Prop := fun ds d => ∃ n g, Tri n g ∧ ds = [.list (triD n g)] ∧ d = .bool true
def P_is_spot : List PyData → PyData → Prop := fun ds d => ∃ n g r p, Tri n g ∧ r + p < n ∧ ds = [.list (triD n g), .int (r : Nat), .int (p : Nat)] ∧ d = .bool true
/-! corners -/
def P_corners : List PyData → List PyData → Prop := fun ds es => ∃ r p u, (u = 0 ∨ u = 1) ∧ ds = [smD (r, p, u)] ∧ es = (crn r p u).map spD
/-! is_small -/
def P_is_small : List PyData → PyData → Prop := fun ds d => ∃ n g s, Tri n g ∧ isSm n s ∧ ds = [.list (triD n g), smD s] ∧ d = .bool true
theorem crnIn {n r p u : Nat} (h : isSm n (r, p, u)) : ∀ s ∈ crn r p u, s.1 + s.2 < n := by
  intro s hs
  rcases h with ⟨hu, h⟩ | ⟨hu, h⟩
  · have hu : u = 1 := hu
    subst hu
    have h : r + p + 1 < n := h
    rcases List.mem_cons.mp hs with rfl | hs
    · show r + p < n; omega
    · rcases List.mem_cons.mp hs with rfl | hs
      · show r + (p + 1) < n; omega
      · rw [List.mem_singleton] at hs
        subst hs
        show r + 1 + p < n; omega
  · have hu : u = 0 := hu
    subst hu
    have h : r + p + 2 < n := h
    rcases List.mem_cons.mp hs with rfl | hs
    · show r + (p + 1) < n; omega
    · rcases List.mem_cons.mp hs with rfl | hs
      · show r + 1 + (p + 1) < n; omega
      · rw [List.mem_singleton] at hs
        subst hs
        show r + 1 + p < n; omega
theorem isU {n : Nat} {s : Nat × Nat × Nat} (h : isSm n s) : s.2.2 = 0 ∨ s.2.2 = 1 := by
  rcases h with ⟨h, _⟩ | ⟨h, _⟩
  · exact .inr h
  · exact .inl h
theorem crnLen (r p u : Nat) : (crn r p u).length = 3 := by unfold crn; split <;> rfl
/-! check_triangle, check_small -/
def P_check_triangle : List PyData → PyData → Prop := fun ds d => ∃ n g, Tri n g ∧ ds = [.list (triD n g)] ∧ d = .none
def P_check_small : List PyData → PyData → Prop := fun ds d => ∃ n g s, Tri n g ∧ isSm n s ∧ ds = [.list (triD n g), smD s] ∧ d = .none
end

end Dt

/-! Rules of our own: list.count of flat things, xs[::k], len(set(a text)), find. -/
namespace Dt
open PySem L2 Evl PyProof.Rows

/-! xs.count(y) -/
def rCntV (K : PySem.W.Frag) : V → List V → Hp → VK → Prop := fun x xs H Q => ∃ (p : Addr) (ys : List V) (y : V), x = .ref p ∧ xs = [y] ∧ SqL K H p ys ∧ flatV y = true ∧ ys.all flatV = true ∧ Q (.int (ys.countP fun z => eqV z y : Nat)) H
theorem countU {y : V} : ∀ {ys : List V} {us : List Value}, Vals ys us → ys.all flatV = true → us.countP (eqU y) = ys.countP fun z => eqV z y
  | _, _, .nil, _ => rfl
  | z :: ys, u :: us, .cons r t, f => by
    rw [List.all_cons, Bool.and_eq_true] at f
    rw [List.countP_cons, List.countP_cons, eqU_of r f.1, countU t f.2]
theorem mt_countS {X : Cx} : MtR X "list.count" (rCntV X.K) := by
  intro pins s σ H x xs v us Q I rx rxs h
  obtain ⟨p, ys, y, rfl, rfl, hs, fy, fys, q⟩ := h
  cases rx
  obtain ⟨u, rfl, ry⟩ := rxs.one
  obtain ⟨its, rv, ⟨⟨cls, dd, data, sl⟩, n, ho, hc, hdn, hd⟩, _⟩ := I.list hs
  simp only at hc hd
  subst hc hd
  refine call_meets PySem.F.slot_list_count ⟨_, ho, rfl⟩ PySem.F.entry_list_count (PySem.F.args_list_count_2 _ _) (SeqAt.list_countAt p its.toArray n dd sl u (eqU y))
    ⟨ho, fun w hw => mem_eqAt ry fy rv fys w (by simpa using hw), .int (ys.countP fun z => eqV z y : Nat), H, I.tok _, ⟨s.toks, ?_⟩, q⟩
  have e : its.toArray.toList.countP (eqU y) = ys.countP fun z => eqV z y := countU rv fys
  exact congrArg (fun k : Nat => Value.int (k : Int) s.toks) e
section
variable {K : PySem.W.Frag} {σ : L2.St} {H H' : Hp} {ta tb te tx : TE} {d e : PyData}
theorem evCount {ys : List V} {ds : List PyData} {w : V} (h : EvD K te σ H (.list ds)) (ha : EvD K ta σ H d) (hw : fV d = some w) (hs : ds.map fV = ys.map some) (f1 : flatV w = true) (f2 : ys.all flatV = true) :
    EvD K (tBM K "list" (rCntV K) te (tCons ta tNil)) σ H (.int (ys.countP fun z => eqV z w : Nat)) := edI fun H1 a Q q =>
  h H1 a _ fun v H2 b hv => by
    obtain ⟨p, xs, rfl, hsq, hr⟩ := dpLst hv
    have e := fvAll hs hr
    subst e
    refine ⟨.inl ⟨rfl, _, hsq⟩, ha H2 (a.trans b) _ fun y H3 c hy => ?_⟩
    have e := fvIs hw hy
    subst e
    exact ⟨p, xs, y, rfl, rfl, ex_l c hsq, f1, f2, q H3 (b.trans c)⟩
end

/-! xs[::k] -/
def ixs (n : Nat) (k : Int) : List Nat := sliceRange (sliceBounds none none (some k) n).1 (sliceBounds none none (some k) n).2.1 (sliceBounds none none (some k) n).2.2
def tStep (K : PySem.W.Frag) (te ts : TE) : TE := fun σ H Q => te σ H fun x H1 => tPart ts σ H1 fun o H2 => ∃ a xs k, x = .ref a ∧ o = some k ∧ k ≠ 0 ∧ SqL K H2 a xs ∧ ∀ p, H2 p = none → Q (.ref p) (upd H2 p (.lst ((ixs xs.length k).filterMap (xs[·]?))))
theorem valsPick {xs : List V} {us : List Value} (r : Vals xs us) : ∀ l : List Nat, Vals (l.filterMap (xs[·]?)) (l.filterMap (us[·]?))
  | [] => .nil
  | i :: l => by
    cases h : xs[i]? with
    | none =>
      rw [List.filterMap_cons_none h, List.filterMap_cons_none (r.none_of h)]
      exact valsPick r l
    | some x =>
      obtain ⟨u, hu, ru⟩ := r.get h
      rw [List.filterMap_cons_some h, List.filterMap_cons_some hu]
      exact .cons ru (valsPick r l)
theorem pe_stepL {X : Cx} {e st : Expr} {te ts : TE} {p3 pos : Pos} (he : PE X e te) (hs : PE X st ts)
    (hop : ∀ o i, subscripted (.Slice none none (some st) p3) false o i = operate [o, i] (getItem o i) := by intro _ _; rfl) : PE X (.Subscript e (.Slice none none (some st) p3) pos) (tStep X.K te ts) := by
  refine ⟨fun pins s σ H Q I h => Subscript_ (thn (he.run pins s σ H _ I h) fun v s1 ⟨x, H1, I1, r1, q1⟩ => ?_)⟩
  refine wpAny_Slice (thn (po_none.run pins s1 σ H1 (fun o H2 => o = none ∧ H2 = H1) I1 ⟨rfl, rfl⟩) fun vl s2 w2 => thn (po_none.run pins s2 σ H1 (fun o H2 => o = none ∧ H2 = H1) (by obtain ⟨l, H2, I2, _, rfl, rfl⟩ := w2; exact I2) ⟨rfl, rfl⟩) fun vu s3 w3 => ?_)
  obtain ⟨l, H2, I2, pl, el, e2⟩ := w2
  subst el e2
  obtain ⟨u, H3, I3, pu, eu, e3⟩ := w3
  subst eu e3
  refine thn ((po_some hs).run pins s3 σ H3 _ I3 q1) fun vs s4 w4 => ?_
  obtain ⟨o, H4, I4, ps, a, xs, k, rfl, rfl, hk, hsq, q⟩ := w4
  cases r1
  have I5 : Inv X pins σ H4 { s4 with heap := s4.heap.push { cls := .type "slice", data := .fields #[vl, vu, vs] } } := I4.kept (t' := s4.toks) fun b ob z => Heap.get?_push_of_some _ z
  obtain ⟨its, r, ht, hz⟩ := I5.list hsq
  have hrl := r.length
  refine tail_any (ops := [.ref a, .ref s4.heap.objs.size]) ht.isList.typeIs PySem.slot_list_getitem.lookup ?_ (hop _ _)
  refine wpAny_getItem_list_slice ht.isList (Heap.IsSliceOf.new _ vl vu vs) pl pu ps (fun z => hk (Option.some.inj z)) ?_ (by rw [List.size_toArray]; omega)
  have ep : slicePick its.toArray none none (some k) = ((ixs xs.length k).filterMap (its[·]?)).toArray := by
    unfold slicePick ixs
    rw [List.size_toArray, ← r.length]
    congr 2
    funext i
    rw [List.getElem?_toArray]
  have hsz := slicePick_size_le its.toArray none none (some k)
  rw [ep] at hsz ⊢
  have hv := valsPick r (ixs xs.length k)
  refine ⟨.ref _, _, I5.laid (t' := s4.toks) (o := .lst ((ixs xs.length k).filterMap (xs[·]?))) (fun b ob z => Heap.get?_push_of_some _ z) (Nat.le_refl _) ⟨?_, _, 0, hv, Heap.get?_push_size _ rfl⟩, rfl, q _ (I5.hok.fresh (Nat.le_refl _))⟩
  rw [hv.length]
  rw [List.size_toArray, List.size_toArray] at hsz
  omega
section
variable {K : PySem.W.Frag} {σ : L2.St} {H H' : Hp} {ta tb te tx : TE} {d e : PyData}
theorem dpsPick {xs : List V} {ds : List PyData} (r : DpAll K H xs ds) : ∀ l : List Nat, DpAll K H (l.filterMap (xs[·]?)) (l.filterMap (ds[·]?))
  | [] => .nil
  | i :: l => by
    cases h : ds[i]? with
    | none =>
      have h2 : xs[i]? = none := by
        rw [List.getElem?_eq_none_iff] at h ⊢
        rw [dpsLen r]
        exact h
      rw [List.filterMap_cons_none h, List.filterMap_cons_none h2]
      exact dpsPick r l
    | some x =>
      obtain ⟨u, hu, ru⟩ := dpsAt r h
      rw [List.filterMap_cons_some h, List.filterMap_cons_some hu]
      exact .cons ru (dpsPick r l)
theorem enStep {ds : List PyData} {k : Int} (h : EvD K te σ H (.list ds)) (hs : EvD K ta σ H (.int k)) (hk : k ≠ 0) : EvN K (tStep K te ta) σ H ((ixs ds.length k).filterMap (ds[·]?)) := fun H1 a Q q =>
  h H1 a _ fun v H2 b hv => evI hs H2 (a.trans b) _ fun H3 c => ⟨k, rfl, by
    obtain ⟨p, xs, rfl, hsq, hr⟩ := dpLst hv
    refine ⟨p, xs, k, rfl, rfl, hk, ex_l c hsq, fun l hl => q l _ _ (fresh_back (b.trans c) hl) ((b.trans c).trans (Ex.new hl)) upd_same ?_⟩
    rw [dpsLen hr]
    exact dpsPick (dpsUp (c.trans (Ex.new hl)) hr) _⟩
end

/-! find -/
def rFind : V → List V → Hp → VK → Prop := fun x xs H Q => ∃ a b, x = .str a ∧ xs = [.str b] ∧ Q (.int (Txt.find a b)) H
theorem pe_findR {X : Cx} {o e : Expr} {to te : TE} {apos pos : Pos} (ho : PE X o to) (he : PE X e te) (hs : starEach [e] X.env = [(false, eval e X.env)] := by rfl) (hbase : attributeBase o "find" X.env (eval o X.env) = eval o X.env := by rfl)
    (hline : (apos.endLine == pos.line) = true := by rfl) : PE X (.Call (.Attribute o "find" apos) [e] [] pos) (tM1 rFind to te) := pe_m1 PySem.F.slot_str_find PySem.F.type_str_find mt_find ho he hs hbase hline
theorem edFind {K : PySem.W.Frag} {σ : L2.St} {H : Hp} {ta tb : TE} {a b : Str} (ha : EvD K ta σ H (.str a)) (hb : EvD K tb σ H (.str b)) : EvD K (tM1 rFind ta tb) σ H (.int (Txt.find a b)) := edI fun H1 e Q q =>
  ha H1 e _ fun v H2 k hv => ⟨⟨a, dpStr hv⟩, hb H2 (e.trans k) _ fun w H3 c hw => ⟨a, b, dpStr hv, by rw [dpStr hw], q H3 (k.trans c)⟩⟩
end Dt

/-! Rules of data, the second part. -/
namespace Dt
open PySem L2 Evl PyProof.Rows
open PySem L2 Evl PyProof.Rows

theorem cI {K : PySem.W.Frag} {σ : L2.St} {H : Hp} (i : Int) : EvD K (tC (.int i)) σ H (.int i) := edI ev_c
/-! a list that grows: at p, unknown to H0 -/
def Grow (K : PySem.W.Frag) (H0 : Hp) (p : Addr) (ds : List PyData) (H : Hp) : Prop := H0 p = none ∧ Ex H0 H ∧ noLs ds = true ∧ ∃ xs, H p = some (.lst xs) ∧ DpAll K H xs ds
section
variable {K : PySem.W.Frag} {σ : L2.St} {H0 H H' : Hp} {ta tb te tx : TE} {t u : TT} {p : Addr} {ds : List PyData} {d e : PyData} {D : Ends} {tz : TS}
theorem Grow.up (g : Grow K H0 p ds H) (e : Ex H H') : Grow K H0 p ds H' := by
  obtain ⟨h1, h2, h3, xs, h4, h5⟩ := g
  exact ⟨h1, h2.trans e, h3, xs, e _ _ h4, dpsUp e h5⟩
theorem growNew {xs : List V} (hp : H0 p = none) (e : Ex H0 H) (h : H p = some (.lst xs)) (hd : DpAll K H xs ds) (hn : noLs ds = true) : Grow K H0 p ds H := ⟨hp, e, hn, xs, h, hd⟩
theorem Grow.eq {es : List PyData} (g : Grow K H0 p ds H) (e : ds = es) : Grow K H0 p es H := by rw [← e]; exact g
theorem sApp {i : Nat} (g : Grow K H0 p ds H) (hi : σ[i]? = some (some (.ref p))) (h : EvD K te σ H d) (hn : noL d = true) (hz : ds.length < 100000) (k : ∀ H1, Grow K H0 p (ds ++ [d]) H1 → D.nx σ H1) :
    tDrop (tBM K "list" rAppend (tVar i) (tCons te tNil)) D σ H := by
  obtain ⟨h1, h2, h3, xs, h4, h5⟩ := g
  refine ⟨.ref p, hi, .inl ⟨rfl, xs, sq_of h4⟩, h H (Ex.refl H) _ fun v H1 e hv => ?_⟩
  have h6 := e _ _ h4
  have h7 := dpsUp e h5
  refine ⟨p, xs, v, rfl, rfl, h6, sz_lt (by rw [dpsLen h7]; exact hz), k _ ⟨h1, (h2.trans e).mut h1, noLs_app h3 (by rw [noLs, hn]; rfl), _, upd_same, dpsSnoc (dpsTups (tupsMut h6) h7 h3) (dpTups (tupsMut h6) hv hn)⟩⟩
theorem qApp {i : Nat} (g : Grow K H0 p ds H) (hi : σ[i]? = some (some (.ref p))) (h : EvD K te σ H d) (hn : noL d = true) (hz : ds.length < 100000) (k : ∀ H1, Grow K H0 p (ds ++ [d]) H1 → tz D σ H1) :
    tSeq (tDrop (tBM K "list" rAppend (tVar i) (tCons te tNil))) tz D σ H := sApp (D := { D with nx := tz D }) g hi h hn hz k
end
theorem flatLen {α β : Type} (f : α → List β) (c : Nat) : ∀ l : List α, (∀ x ∈ l, (f x).length ≤ c) → (l.flatMap f).length ≤ l.length * c
  | [], _ => by simp
  | x :: l, h => by
    have h1 := h x List.mem_cons_self
    have h2 := flatLen f c l fun y hy => h y (List.mem_cons_of_mem _ hy)
    rw [List.flatMap_cons, List.length_append, List.length_cons, Nat.add_mul]
    omega
theorem smAtLen (n r p : Nat) : (smAt n r p).length ≤ 2 := by unfold smAt; split <;> simp
theorem smRowLen (n r : Nat) (k : Nat) : ((List.range k).flatMap (smAt n r)).length ≤ k * 2 := by
  have h := flatLen (smAt n r) 2 (List.range k) fun p _ => smAtLen n r p
  rw [List.length_range] at h
  exact h
theorem smLen (n k : Nat) : ((List.range k).flatMap (smRow n)).length ≤ k * (n * 2) := by
  have h := flatLen (smRow n) (n * 2) (List.range k) fun r _ => by
    have z := smRowLen n r (n - r - 1)
    unfold smRow
    omega
  rw [List.length_range] at h
  exact h
theorem smAllLen {n : Nat} (h : n ≤ 100) : (smAll n).length ≤ 20000 := by
  have z := smLen n (n - 1)
  have z2 : (n - 1) * (n * 2) ≤ 100 * 200 := Nat.mul_le_mul (by omega) (by omega)
  unfold smAll
  omega
theorem smD_noL (s : Nat × Nat × Nat) : noL (smD s) = true := by
  unfold smD
  rw [noL, noLs, noL, noLs, noL, noLs, noL, noLs]
  rfl
theorem smDs_noL (l : List (Nat × Nat × Nat)) : noLs (l.map smD) = true := noLs_map fun s _ => smD_noL s
theorem spD_noL (s : Nat × Nat) : noL (spD s) = true := by
  unfold spD
  rw [noL, noLs, noL, noLs, noL, noLs]
  rfl

section
variable {P : Program} {w : World} {K : PySem.W.Frag} {mg : Str → Option Value} {base : Heap}

/-! all_smalls -/
def P_all_smalls : List PyData → List PyData → Prop := fun ds es => ∃ n g, Tri n g ∧ ds = [.list (triD n g)] ∧ es = (smAll n).map smD
end

open PySem L2 Evl PyProof.Rows

/-! three letters, and which way round they stand -/
theorem join3 (a b c : Nat) : Txt.join ("" : Str) [⟨#[a]⟩, ⟨#[b]⟩, ⟨#[c]⟩] = ⟨#[a, b, c]⟩ := rfl
def w3 (a b c : Nat) : Str := ⟨#[a, b, c]⟩
theorem leftIs {a b c : Nat} (ha : Code a) (hb : Code b) (hc : Code c) : inV (.str (w3 a b c)) [.str "abc", .str "bca", .str "cab"] = decide (turn3 a b c = 1) := by
  rcases ha with rfl | rfl | rfl <;> rcases hb with rfl | rfl | rfl <;> rcases hc with rfl | rfl | rfl <;> decide +kernel
theorem rightIs {a b c : Nat} (ha : Code a) (hb : Code b) (hc : Code c) : inV (.str (w3 a b c)) [.str "acb", .str "cba", .str "bac"] = decide (turn3 a b c = -1) := by
  rcases ha with rfl | rfl | rfl <;> rcases hb with rfl | rfl | rfl <;> rcases hc with rfl | rfl | rfl <;> decide +kernel
theorem turnIs {a b c : Nat} (ha : Code a) (hb : Code b) (hc : Code c) : turn3 a b c = 1 ∨ turn3 a b c = -1 ∨ turn3 a b c = 0 := by
  rcases ha with rfl | rfl | rfl <;> rcases hb with rfl | rfl | rfl <;> rcases hc with rfl | rfl | rfl <;> decide +kernel

/-! the side -/
def spots (n : Nat) : List (Nat × Nat) := (List.range (n - 1)).map (fun p => (0, p)) ++ (List.range (n - 1)).map (fun r => (r, n - 1 - r)) ++ (List.range (n - 1)).map (fun k => (n - 1 - k, 0))
theorem spotsIn {n : Nat} (h : 2 ≤ n) : ∀ s ∈ spots n, s.1 + s.2 < n := by
  intro s hs
  unfold spots at hs
  rw [List.mem_append, List.mem_append, List.mem_map, List.mem_map, List.mem_map] at hs
  rcases hs with (⟨k, hk, rfl⟩ | ⟨k, hk, rfl⟩) | ⟨k, hk, rfl⟩
  · rw [List.mem_range] at hk
    show 0 + k < n
    omega
  · rw [List.mem_range] at hk
    show k + (n - 1 - k) < n
    omega
  · rw [List.mem_range] at hk
    show n - 1 - k + 0 < n
    omega
theorem spotsLen (n : Nat) : (spots n).length = (n - 1) + (n - 1) + (n - 1) := by
  unfold spots
  rw [List.length_append, List.length_append, List.length_map, List.length_map, List.length_map, List.length_range]
def codes (n : Nat) (g : Nat → Nat → Nat) : List Nat := (spots n).map fun s => g s.1 s.2
def rot (l : List Nat) : List Nat := l.drop 1 ++ l.take 1
def pairs (l : List Nat) : List (Nat × Nat) := l.zip (rot l)
def st2 (s : Nat × Nat) : PyData := .str ⟨#[s.1, s.2]⟩
theorem codesLen (n : Nat) (g : Nat → Nat → Nat) : (codes n g).length = (n - 1) + (n - 1) + (n - 1) := by
  unfold codes
  rw [List.length_map, spotsLen]
theorem rotLen (l : List Nat) : (rot l).length = l.length := by
  unfold rot
  rw [List.length_append, List.length_drop, List.length_take]
  omega
theorem pairsLen (l : List Nat) : (pairs l).length = l.length := by
  unfold pairs
  rw [List.length_zip, rotLen]
  omega
def isAB (s : Nat × Nat) : Bool := decide (s = (97, 98))
def isBA (s : Nat × Nat) : Bool := decide (s = (98, 97))
theorem eqAB (s : Nat × Nat) (hs : Code s.1 ∧ Code s.2) : eqV (.str ⟨#[s.1, s.2]⟩) (.str "ab") = isAB s := by
  obtain ⟨a, b⟩ := s
  obtain ⟨ha, hb⟩ := hs
  rcases ha with rfl | rfl | rfl <;> rcases hb with rfl | rfl | rfl <;> decide +kernel
theorem eqBA (s : Nat × Nat) (hs : Code s.1 ∧ Code s.2) : eqV (.str ⟨#[s.1, s.2]⟩) (.str "ba") = isBA s := by
  obtain ⟨a, b⟩ := s
  obtain ⟨ha, hb⟩ := hs
  rcases ha with rfl | rfl | rfl <;> rcases hb with rfl | rfl | rfl <;> decide +kernel
theorem inAB (s : Nat × Nat) (hs : Code s.1 ∧ Code s.2) : inV (.str ⟨#[s.1, s.2]⟩) [.str "ab", .str "ba"] = (isAB s || isBA s) := by
  obtain ⟨a, b⟩ := s
  obtain ⟨ha, hb⟩ := hs
  rcases ha with rfl | rfl | rfl <;> rcases hb with rfl | rfl | rfl <;> decide +kernel
theorem codesOk {n : Nat} {g : Nat → Nat → Nat} (tri : Tri n g) : ∀ c ∈ codes n g, Code c := by
  intro c hc
  obtain ⟨s, _, rfl⟩ := List.mem_map.mp hc
  exact tri.ok _ _
theorem pairsOk {l : List Nat} (h : ∀ c ∈ l, Code c) : ∀ s ∈ pairs l, Code s.1 ∧ Code s.2 := by
  intro s hs
  obtain ⟨a, b⟩ := s
  have z := List.of_mem_zip hs
  refine ⟨h _ z.1, h _ ?_⟩
  have z2 := z.2
  unfold rot at z2
  rw [List.mem_append] at z2
  rcases z2 with z2 | z2
  · exact List.mem_of_mem_drop z2
  · exact List.mem_of_mem_take z2
def doorsOf (l : List (Nat × Nat)) : List Nat := (List.range l.length).filter fun i => isAB (l.getD i (0, 0)) || isBA (l.getD i (0, 0))
def aroundOf (l : List (Nat × Nat)) : Int := (l.countP isAB : Nat) - (l.countP isBA : Nat)

section
variable {P : Program} {w : World} {K : PySem.W.Frag} {mg : Str → Option Value} {base : Heap}

/-! turn_of -/
def P_turn_of : List PyData → PyData → Prop := fun ds d => ∃ n g s, Tri n g ∧ isSm n s ∧ ds = [.list (triD n g), smD s] ∧ d = .int (trn g s)
theorem trnAs (g : Nat → Nat → Nat) {n r p u : Nat} (h : isSm n (r, p, u)) : ∃ a b c, (crn r p u).map (fun s => g s.1 s.2) = [a, b, c] ∧ trn g (r, p, u) = turn3 a b c := by
  rcases h with ⟨hu, h⟩ | ⟨hu, h⟩
  · have hu : u = 1 := hu
    subst hu
    exact ⟨_, _, _, rfl, rfl⟩
  · have hu : u = 0 := hu
    subst hu
    exact ⟨_, _, _, rfl, rfl⟩
/-! side_spots -/
def P_side_spots : List PyData → List PyData → Prop := fun ds es => ∃ n g, Tri n g ∧ ds = [.list (triD n g)] ∧ es = (spots n).map spD
/-! side_steps -/
def P_side_steps : List PyData → List PyData → Prop := fun ds es => ∃ n g, Tri n g ∧ ds = [.list (triD n g)] ∧ es = (pairs (codes n g)).map st2
theorem cut1D (ds : List PyData) : cutD ds (some 1) none = ds.drop 1 := by
  unfold cutD
  rw [show HT.sIx ds.length 0 (some 1) = min 1 ds.length from HT.sIx_nat ds.length 0 1, HT.sIx_none]
  cases ds with
  | nil => rfl
  | cons x r =>
    rw [show min 1 (x :: r).length = 1 by rw [List.length_cons]; omega]
    exact List.take_of_length_le (by rw [List.length_drop]; exact Nat.le_refl _)
theorem cutTo1D (ds : List PyData) : cutD ds none (some 1) = ds.take 1 := by
  unfold cutD
  rw [show HT.sIx ds.length ds.length (some 1) = min 1 ds.length from HT.sIx_nat ds.length _ 1, HT.sIx_none, List.drop_zero, Nat.sub_zero]
  cases ds with
  | nil => rfl
  | cons x r =>
    rw [show min 1 (x :: r).length = 1 by rw [List.length_cons]; omega]
end

end Dt

/-! len(set(t)), t a text. -/
namespace Dt
open PySem L2 Evl PyProof.Rows

def ddS (acc : List Nat) (c : Nat) : List Nat := if acc.any (· == c) then acc else acc ++ [c]
def dd (cs : List Nat) : List Nat := cs.foldl ddS []
theorem ddLen : ∀ (cs acc : List Nat), (cs.foldl ddS acc).length ≤ acc.length + cs.length
  | [], acc => Nat.le_refl _
  | c :: cs, acc => by
    have h := ddLen cs (ddS acc c)
    have h2 : (ddS acc c).length ≤ acc.length + 1 := by
      unfold ddS
      split
      · omega
      · rw [List.length_append, List.length_singleton]
        omega
    rw [List.foldl_cons, List.length_cons]
    omega
def inS (acc : List Nat) (k : Str) : Bool := acc.any fun c => decide (k = ⟨#[c]⟩)
theorem inS_one (acc : List Nat) (c : Nat) : inS acc ⟨#[c]⟩ = acc.any (· == c) := by
  unfold inS
  congr 1
  funext z
  by_cases h : z = c
  · subst h
    rw [decide_eq_true rfl, beq_self_eq_true]
  · have h2 : ¬ (⟨#[c]⟩ : Str) = ⟨#[z]⟩ := fun e => h (by
      have e1 := congrArg (fun y : Str => y.cps.toList) e
      injection e1 with e2
      exact e2.symm)
    rw [decide_eq_false h2, beq_eq_false_iff_ne.mpr h]
theorem inS_step (acc : List Nat) (c : Nat) (k : Str) : inS (ddS acc c) k = (inS acc k || decide (k = ⟨#[c]⟩)) := by
  unfold ddS
  by_cases h : acc.any (· == c) = true
  · rw [if_pos h]
    by_cases e : k = ⟨#[c]⟩
    · subst e
      rw [inS_one, h]
      rfl
    · rw [decide_eq_false e, Bool.or_false]
  · rw [if_neg h]
    unfold inS
    rw [List.any_append]
    simp
theorem ddS_len (acc : List Nat) (c : Nat) : (ddS acc c).length = if inS acc ⟨#[c]⟩ then acc.length else acc.length + 1 := by
  rw [inS_one]
  unfold ddS
  split
  · rfl
  · rw [List.length_append, List.length_singleton]
section
variable {prog : Program} {w : World} {A : Around} {R : Result → Shared → Prop} {I : Addr} {fp wr : List Addr} {G : Array GenState → Array GenState → Prop} {n : Nat} {Pz : Nat → Value → Prop} {St : Nat → Shared → Prop}
theorem loopSigns (W : WalksS prog w A.in1 I fp wr G n Pz St) (S : Addr) (hSf : S ∉ fp) (cs : List Nat) (hn : cs.length = n) (hb : n + 1 < scanBound) (hval : ∀ i v, Pz i v → ∃ c t, cs[i]? = some c ∧ v = .str ⟨#[c]⟩ t) :
    ∀ (m i : Nat) (s : Shared), n - i = m → i ≤ n → St i s → s.heap.SetOf (PySem.strKind prog w) S (inS (dd (cs.take i))) (dd (cs.take i)).length →
      (∀ s', Moved (S :: wr) G s s' → s'.heap.SetOf (PySem.strKind prog w) S (inS (dd cs)) (dd cs).length → R (.ok (.ret .none)) s') →
      codeAny (model prog w) A (.builtin "set.update.loop" ⟨[.ref S, .ref I], []⟩) R s := by
  have away : S ∉ wr := fun z => hSf (W.sub _ z)
  have wider : ∀ b ∈ wr, b ∈ S :: wr := fun b z => List.mem_cons_of_mem _ z
  have stands : ∀ {t t' : Shared} {T : Str → Bool} {k : Nat}, Moved wr G t t' → t.heap.SetOf (PySem.strKind prog w) S T k → t'.heap.SetOf (PySem.strKind prog w) S T k := fun mv z => by
    obtain ⟨o, es, ep, tb, ho, more⟩ := z
    exact ⟨o, es, ep, tb, mv.heap S _ away ho, more⟩
  intro m
  induction m with
  | zero =>
    intro i s em hi st hS fin
    have e : i = n := by omega
    subst e
    rw [← hn, List.take_length] at hS
    refine codeAny_builtin PyProof.Rows.F.entry_set_update_loop ?_
    rw [Around.under_plainId PyProof.Rows.F.plain_set_update_loop]
    refine wpAny_bind (m := pyNext (.ref I)) (W.done s _ _ st fun s' mv => ?_)
    exact wpAny_pure (fin s' (mv.mono wider) (stands mv hS))
  | succ m ih =>
    intro i s em hi st hS fin
    have lt : i < n := by omega
    refine codeAny_builtin PyProof.Rows.F.entry_set_update_loop ?_
    rw [Around.under_plainId PyProof.Rows.F.plain_set_update_loop]
    refine wpAny_bind (m := pyNext (.ref I)) (W.item i s _ _ lt st fun v s1 hP st1 mv => ?_)
    obtain ⟨c, t, hc, rfl⟩ := hval i v hP
    have hS1 := stands mv hS
    have tk : cs.take (i + 1) = cs.take i ++ [c] := by rw [List.take_add_one, hc]; rfl
    have dk : dd (cs.take (i + 1)) = ddS (dd (cs.take i)) c := by
      unfold dd
      rw [tk, List.foldl_append]
      rfl
    have few : (dd (cs.take i)).length ≤ i := by
      have z := ddLen (cs.take i) []
      have z2 := List.length_take_le i cs
      unfold dd
      simp only [List.length_nil] at z
      omega
    refine wpAny_bind (m := holding [Value.str ⟨#[c]⟩ t] (setAdd S (.str ⟨#[c]⟩ t))) (wpAny_holding ?_)
    unfold setAdd
    refine wpAny_holding (wpAny_bind ((PySem.strKind prog w).pyHash (k := ⟨#[c]⟩) (strKind_is _ _ _ _) ?_))
    refine wpAny_setAddHashed_of (knd := PySem.strKind prog w) (s := { s1 with toks := s1.toks + 1 }) (strKind_is _ _ _ _) rfl hS1 (by omega) fun h2 sb hS2 => ?_
    have hS3 : h2.SetOf (PySem.strKind prog w) S (inS (dd (cs.take (i + 1)))) (dd (cs.take (i + 1))).length :=
      SetOf_congr hS2 (fun k => by rw [dk, inS_step]) (by rw [dk, ddS_len])
    refine wpAny_pure ⟨plainId_quiet PyProof.Rows.F.plain_set_update_loop _, ih (i + 1) _ (by omega) lt (W.frame _ s1 _ _ st1 (Nat.le_succ _) fun b hb o e => ?_) hS3 fun s3 mv3 hS4 => ?_⟩
    · rw [sb.2 b fun z => hSf (z ▸ hb)]
      exact e
    · refine fin s3 (Moved.trans W.gtrans ((mv.mono wider).then_heap (Nat.le_succ _) fun b o hb e => ?_) mv3) hS4
      rw [sb.2 b fun z => hb (z ▸ List.mem_cons_self)]
      exact e
end
section
variable {prog : Program} {w : World} {A : Around} {E : Value → Shared → Prop} {s : Shared}
theorem call_set_text {x : Str} {t : Tok} {Q : Value → Shared → Prop} (hh : A.handled = none) (hb : x.cps.toList.length + 1 < scanBound)
    (h : ∀ (h' : Heap) (tk : Nat), h'.SetOf (PySem.strKind prog w) s.heap.objs.size (inS (dd x.cps.toList)) (dd x.cps.toList).length → (∀ b o, b < s.heap.objs.size → s.heap.get? b = some o → h'.get? b = some o) → Q (.ref s.heap.objs.size) { s with heap := h', toks := tk }) :
    wpAny (model prog w) A (call (.type "set") [.str x t]) Q E s := by
  obtain ⟨cS, tlS, hmro⟩ := PySem.F.called_set.mro
  have made := PySem.F.called_set.made
  have sub := PySem.F.called_set.sub
  refine wpAny_call (codeAny_of_tree ?_)
  show wpAny _ _ (callAny (.type "set") _) _ _ _
  refine wpAny_pure ⟨Code.quiet_builtin _ (by decide +kernel), codeAny_builtin PySem.F.entry_type_call ?_⟩
  rw [Around.under_plain (weight_type_call_type "set" [.str x t] []) rfl]
  have n1 := PySem.F.called_set.notType
  have n2 := PySem.F.called_set.canCreate
  have n3 := PySem.F.typeCall_set_1 (.str x t)
  repeat (any_goals (first | assumption | wp_step))
  refine codeAny_mono (code_set_new_1 (.str x t) (E := E) (Q₁ := fun obj s₁ => ∃ led : Bool, obj = .ref s.heap.objs.size ∧ s₁ = { s with heap := s.heap.push { cls := .type "set", dict := none, data := .set #[] 0 (.fresh 0 0 led) } }) fun led => ⟨led, rfl, rfl⟩) fun r s1 hr => ?_
  cases r with
  | error e => exact hr
  | ok fl =>
    cases fl with
    | ret obj =>
      obtain ⟨led, rfl, rfl⟩ := hr
      have new : (s.heap.push { cls := .type "set", dict := none, data := .set #[] 0 (.fresh 0 0 led) }).get? s.heap.objs.size = some { cls := .type "set", dict := none, data := .set #[] 0 (.fresh 0 0 led) } := Heap.get?_push_size _ rfl
      have ty : Shared.TypeIs { s with heap := s.heap.push { cls := .type "set", dict := none, data := .set #[] 0 (.fresh 0 0 led) } } (.ref s.heap.objs.size) "set" := ⟨_, new, rfl⟩
      have m1 := PySem.F.called_set.init.lookup
      have m2 := PySem.F.called_set.init.bind (.ref s.heap.objs.size)
      repeat (any_goals (first | assumption | wp_step))
      refine codeAny_mono (codeAny_call_builtin (R := wants (fun r s2 => r = .none ∧ ∃ h' tk, s2 = { s with heap := h', toks := tk } ∧ h'.SetOf (PySem.strKind prog w) s.heap.objs.size (inS (dd x.cps.toList)) (dd x.cps.toList).length ∧
          (∀ b o, b < s.heap.objs.size → s.heap.get? b = some o → h'.get? b = some o)) E) PySem.F.called_set.init.plain PySem.F.entry_set_init (check_set_init_1 ty ?_)) fun r2 s2 hr2 => ?_
      · have t1 := PySem.F.sub_str_set
        have t2 := PySem.F.sub_str_frozenset
        have t3 : (Value.type "str" == Value.type "dict") = false := by decide
        unfold Builtin.«set.__init__» noKeywords Builtin.Frozenset.updateFrom
        generalize hPI : pyIter = PI
        wp_walk
        subst hPI
        refine wpAny_pyIter_strU ?_
        refine wpAny_bind (wpAny_runValue ?_)
        have far : s.heap.objs.size ∉ [(s.heap.push { cls := .type "set", dict := none, data := .set #[] 0 (.fresh 0 0 led) }).objs.size] := by
          rw [Heap.size_push, List.mem_singleton]
          exact Nat.ne_of_lt (Nat.lt_succ_self _)
        have signs : ∀ i v, SignAt x i v → ∃ c t, x.cps.toList[i]? = some c ∧ v = .str ⟨#[c]⟩ t := fun i v hv => by
          obtain ⟨c, u, hc, hv⟩ := hv
          exact ⟨c, u, by rw [Array.getElem?_toList]; exact hc, hv⟩
        have still : ((s.heap.push { cls := .type "set", dict := none, data := .set #[] 0 (.fresh 0 0 led) }).push { cls := .type (strIterType x), data := .fields #[.str x t, .int 0 0] }).get? s.heap.objs.size = some { cls := .type "set", dict := none, data := .set #[] 0 (.fresh 0 0 led) } := Heap.get?_push_of_some _ new
        have empty : ((s.heap.push { cls := .type "set", dict := none, data := .set #[] 0 (.fresh 0 0 led) }).push { cls := .type (strIterType x), data := .fields #[.str x t, .int 0 0] }).SetOf (PySem.strKind prog w) s.heap.objs.size (inS (dd (x.cps.toList.take 0))) (dd (x.cps.toList.take 0)).length :=
          SetOf_congr ((setObjOf_fresh (knd := PySem.strKind prog w) led).setOf still (by unfold scanBound; omega)) (fun _ => rfl) rfl
        have len : x.cps.toList.length = x.cps.size := Array.length_toList
        have ends : ∀ s' : Shared, Moved (s.heap.objs.size :: [(s.heap.push { cls := .type "set", dict := none, data := .set #[] 0 (.fresh 0 0 led) }).objs.size]) (fun g g' => g' = g) { s with heap := (s.heap.push { cls := .type "set", dict := none, data := .set #[] 0 (.fresh 0 0 led) }).push { cls := .type (strIterType x), data := .fields #[.str x t, .int 0 0] } } s' →
            s'.heap.SetOf (PySem.strKind prog w) s.heap.objs.size (inS (dd x.cps.toList)) (dd x.cps.toList).length → ∃ h' tk, s' = { s with heap := h', toks := tk } ∧ h'.SetOf (PySem.strKind prog w) s.heap.objs.size (inS (dd x.cps.toList)) (dd x.cps.toList).length ∧
              (∀ b o, b < s.heap.objs.size → s.heap.get? b = some o → h'.get? b = some o) := fun s' mv hS' => by
          obtain ⟨h', g', d', tk', os'⟩ := s'
          have eg : g' = s.gens := mv.gens
          have ed : d' = s.drawn := mv.drawn
          have eo : os' = s.os := mv.os
          subst eg ed eo
          refine ⟨h', tk', rfl, hS', fun b o lt e => mv.heap b o (fun z => ?_) (Heap.get?_push_of_some _ (Heap.get?_push_of_some _ e))⟩
          rw [Heap.size_push] at z
          rcases List.mem_cons.mp z with z | z
          · exact absurd lt (by rw [z]; exact Nat.lt_irrefl _)
          · rw [List.mem_singleton] at z
            exact absurd lt (by rw [z]; exact Nat.not_lt.mpr (Nat.le_succ _))
        by_cases ha : x.cps.all (· < 128) = true
        · have e0 : strIterType x = "str_ascii_iterator" := if_pos ha
          refine loopSigns ((Walks.strAscii (by simp [hh]) _ x t).toS) s.heap.objs.size far x.cps.toList len (by rw [← len]; exact hb) signs (x.cps.size - 0) 0 _ rfl (Nat.zero_le _) ⟨_, Heap.get?_push_size _ rfl, by rw [e0], rfl⟩ empty fun s' mv hS' => ?_
          obtain ⟨h', tk', rfl, k1, k2⟩ := ends s' mv hS'
          exact wpAny_pure (wpAny_pure ⟨rfl, h', tk', rfl, k1, k2⟩)
        · have e0 : strIterType x = "str_iterator" := if_neg ha
          refine loopSigns ((Walks.strWide (by simp [hh]) _ x t).toS) s.heap.objs.size far x.cps.toList len (by rw [← len]; exact hb) signs (x.cps.size - 0) 0 _ rfl (Nat.zero_le _) ⟨_, Heap.get?_push_size _ rfl, by rw [e0], rfl⟩ empty fun s' mv hS' => ?_
          obtain ⟨h', tk', rfl, k1, k2⟩ := ends s' mv hS'
          exact wpAny_pure (wpAny_pure ⟨rfl, h', tk', rfl, k1, k2⟩)
      · cases r2 with
        | error e => exact hr2
        | ok fl2 =>
          cases fl2 with
          | ret r =>
            obtain ⟨rfl, h', tk, rfl, hS', hk'⟩ := hr2
            repeat (any_goals (first | assumption | wp_step))
            exact h _ _ hS' hk'
          | _ => exact hr2.elim
    | _ => exact hr.elim
end
def tLenSetS (ta : TE) : TE := fun σ H Q => ta σ H fun x H1 => ∃ z : Str, x = .str z ∧ z.length ≤ 1000 ∧ Q (.int ((dd z.cps.toList).length : Nat)) H1
theorem pe_lenSetS {X : Cx} {a : Expr} {ta : TE} {p p2 q pos : Pos} (hg : Gl X "len") (hm : X.mg "len" = none) (hg2 : Gl X "set") (hm2 : X.mg "set" = none) (ha : PE X a ta) (hc : X.calm = true := by rfl)
    (na : starEach [a] X.env = (false, eval a X.env) :: starEach [] X.env := by rfl) : PE X (.Call (.Name "len" p) [.Call (.Name "set" p2) [a] [] q] [] pos) (tLenSetS ta) := by
  refine ⟨fun pins s σ H Q I h => Call_ (ld_blt I hg hm boot_len (callWith_builtin1 (args_cons ?_ rfl) rfl rfl))⟩
  refine Call_ (ld_blt I hg2 hm2 boot_set (callWith_type1 (args_cons (thn (ha.run pins s σ H _ I h) fun v s1 w => args_nil ?_) na) na rfl))
  obtain ⟨x, H1, I1, r1, z, rfl, hz, q1⟩ := w
  obtain ⟨t, rfl⟩ := r1
  have hzl : z.cps.toList.length ≤ 1000 := by
    rw [Array.length_toList]
    exact hz
  refine call_set_text (I1.ok.hd hc) (by unfold scanBound; omega) fun h' tk hS hk => args_nil ?_
  obtain ⟨o, es, ep, tb, ho, hex, hd, _, _, _, hf, hn⟩ := hS
  have I2 : Inv X pins σ H1 { s1 with heap := h', toks := tk } := I1.kept fun b ob e => hk b ob (Heap.lt_size e) e
  have few := ddLen z.cps.toList []
  have few2 : (dd z.cps.toList).length ≤ 1000 := by
    unfold dd
    simp only [List.length_nil] at few
    omega
  exact call_len_set ho hex hd hf (by rw [hn]; omega) ⟨.int ((dd z.cps.toList).length : Nat), H1, I2.tok _, ⟨_, by rw [hn]⟩, q1⟩
theorem edLenSet {K : PySem.W.Frag} {σ : L2.St} {H : Hp} {ta : TE} {z : Str} (h : EvD K ta σ H (.str z)) (hz : z.length ≤ 1000) : EvD K (tLenSetS ta) σ H (.int ((dd z.cps.toList).length : Nat)) := edI fun H1 a Q q =>
  evS h H1 a _ fun H2 b => ⟨z, rfl, hz, q H2 b⟩
end Dt

/-! Texts, the side, data that may be compared. -/
namespace Dt
open PySem L2 Evl PyProof.Rows
open PySem L2 Evl PyProof.Rows

/-! texts as lists of signs -/
def sOf (l : List Nat) : Str := ⟨l.toArray⟩
theorem sOfLen (l : List Nat) : (sOf l).length = l.length := List.size_toArray
theorem sOfApp (a b : List Nat) : sOf a ++ sOf b = sOf (a ++ b) := by
  show (⟨a.toArray ++ b.toArray⟩ : Str) = ⟨(a ++ b).toArray⟩
  simp
theorem sOfSelf (x : Str) : sOf x.cps.toList = x := rfl
theorem cutSTo (l : List Nat) (k : Nat) : cutS (sOf l) none (some (k : Int)) = sOf (l.take k) := by
  unfold cutS
  rw [show HT.sIx (sOf l).length (sOf l).length (some (k : Int)) = min k (sOf l).length from HT.sIx_nat _ _ k, HT.sIx_none, Nat.sub_zero, List.drop_zero, sOfLen]
  show sOf (l.take (min k l.length)) = sOf (l.take k)
  rw [← List.take_take, List.take_length]
theorem cutSFrom (l : List Nat) (k : Nat) : cutS (sOf l) (some (k : Int)) none = sOf (l.drop k) := by
  unfold cutS
  rw [show HT.sIx (sOf l).length 0 (some (k : Int)) = min k (sOf l).length from HT.sIx_nat _ _ k, HT.sIx_none, sOfLen]
  show sOf ((l.drop (min k l.length)).take (l.length - min k l.length)) = sOf (l.drop k)
  by_cases h : k ≤ l.length
  · rw [Nat.min_eq_left h, List.take_of_length_le (by rw [List.length_drop]; exact Nat.le_refl _)]
  · rw [Nat.min_eq_right (by omega), Nat.sub_self, List.take_zero, List.drop_of_length_le (by omega)]
theorem cutSMid (l : List Nat) (a b : Nat) : cutS (sOf l) (some (a : Int)) (some (b : Int)) = sOf ((l.take b).drop a) := by
  unfold cutS
  rw [show HT.sIx (sOf l).length 0 (some (a : Int)) = min a (sOf l).length from HT.sIx_nat _ _ a, show HT.sIx (sOf l).length (sOf l).length (some (b : Int)) = min b (sOf l).length from HT.sIx_nat _ _ b, sOfLen]
  show sOf ((l.drop (min a l.length)).take (min b l.length - min a l.length)) = sOf ((l.take b).drop a)
  congr 1
  refine List.ext_getElem? fun i => ?_
  rw [List.getElem?_take, List.getElem?_drop, List.getElem?_drop, List.getElem?_take]
  by_cases h1 : a ≤ l.length
  · rw [Nat.min_eq_left h1]
    by_cases h2 : b ≤ l.length
    · rw [Nat.min_eq_left h2]
      by_cases h3 : i < b - a
      · rw [if_pos h3, if_pos (by omega)]
      · rw [if_neg h3, if_neg (by omega)]
    · rw [Nat.min_eq_right (by omega)]
      by_cases h3 : i < l.length - a
      · rw [if_pos h3, if_pos (by omega)]
      · rw [if_neg h3, List.getElem?_eq_none (by omega)]
        split <;> rfl
  · rw [Nat.min_eq_right (by omega : l.length ≤ a), List.getElem?_eq_none (by omega), List.getElem?_eq_none (by omega)]
    split <;> split <;> rfl
theorem rowSOf (n : Nat) (g : Nat → Nat → Nat) (r : Nat) : rowS n g r = sOf ((List.range (n - r)).map (g r)) := rfl

/-! a letter put in -/
def putG (g : Nat → Nat → Nat) (r p c : Nat) : Nat → Nat → Nat := fun r' p' => if r' = r ∧ p' = p then c else g r' p'
theorem putTri {n : Nat} {g : Nat → Nat → Nat} {c : Nat} (tri : Tri n g) (h : Code c) (r p : Nat) : Tri n (putG g r p c) := ⟨tri.lo, tri.hi, fun r' p' => by
  unfold putG
  split
  · exact h
  · exact tri.ok _ _⟩
theorem putRow {n : Nat} {g : Nat → Nat → Nat} {r p c : Nat} (h : p < n - r) : ((List.range (n - r)).map (g r)).take p ++ [c] ++ ((List.range (n - r)).map (g r)).drop (p + 1) = (List.range (n - r)).map (putG g r p c r) := by
  refine List.ext_getElem? fun i => ?_
  have l1 : (((List.range (n - r)).map (g r)).take p).length = p := by
    rw [List.length_take, List.length_map, List.length_range]
    omega
  rw [List.append_assoc, List.getElem?_append, l1, List.getElem?_map]
  unfold putG
  by_cases h1 : i < p
  · rw [if_pos h1, List.getElem?_take, if_pos h1, List.getElem?_map, List.getElem?_range (by omega)]
    show some (g r i) = some (if r = r ∧ i = p then c else g r i)
    rw [if_neg (by omega)]
  · rw [if_neg h1]
    by_cases h2 : i = p
    · subst h2
      rw [Nat.sub_self, List.getElem?_range h]
      show some c = some (if r = r ∧ i = i then c else g r i)
      rw [if_pos ⟨rfl, rfl⟩]
    · obtain ⟨k, hk⟩ : ∃ k, i - p = k + 1 := ⟨i - p - 1, by omega⟩
      rw [hk]
      show (((List.range (n - r)).map (g r)).drop (p + 1))[k]? = _
      rw [List.getElem?_drop, List.getElem?_map, show p + 1 + k = i by omega]
      by_cases h3 : i < n - r
      · rw [List.getElem?_range h3]
        show some (g r i) = some (if r = r ∧ i = p then c else g r i)
        rw [if_neg (by omega)]
      · rw [List.getElem?_eq_none (by rw [List.length_range]; omega)]
        rfl
theorem putTriD {n : Nat} {g : Nat → Nat → Nat} {r p c : Nat} (h : p < n - r) : (triD n g).set r (.str (rowS n (putG g r p c) r)) = triD n (putG g r p c) := by
  refine List.ext_getElem? fun i => ?_
  unfold triD
  rw [List.getElem?_set, List.getElem?_map, List.getElem?_map, List.length_map, List.length_range]
  by_cases hi : r = i
  · subst hi
    rw [if_pos rfl, if_pos (by omega), List.getElem?_range (by omega)]
    rfl
  · rw [if_neg hi]
    by_cases h2 : i < n
    · rw [List.getElem?_range h2]
      have e : rowS n g i = rowS n (putG g r p c) i := by
        unfold rowS
        congr 2
        refine List.map_congr_left fun q _ => ?_
        unfold putG
        rw [if_neg (fun z => hi z.1.symm)]
      show some (PyData.str (rowS n g i)) = some (PyData.str (rowS n (putG g r p c) i))
      rw [e]
    · rw [List.getElem?_eq_none (by rw [List.length_range]; omega)]
      rfl

section
variable {K : PySem.W.Frag} {σ : L2.St} {H H' : Hp} {te : TE} {d : PyData} {D : Ends} {tz : TS}
theorem qDrop (h : EvD K te σ H d) (k : ∀ H1, Ex H H1 → tz D σ H1) : tSeq (tDrop te) tz D σ H := h H (Ex.refl H) _ fun v H1 e _ => k H1 e
end

section
variable {P : Program} {w : World} {K : PySem.W.Frag} {mg : Str → Option Value} {base : Heap}

/-! fulls -/
def fullsOf (n : Nat) (g : Nat → Nat → Nat) : List (Nat × Nat × Nat) := (smAll n).filter fun s => !decide (trn g s = 0)
def P_fulls : List PyData → List PyData → Prop := fun ds es => ∃ n g, Tri n g ∧ ds = [.list (triD n g)] ∧ es = (fullsOf n g).map smD
/-! around, doors -/
def P_around : List PyData → PyData → Prop := fun ds d => ∃ n g, Tri n g ∧ ds = [.list (triD n g)] ∧ d = .int (aroundOf (pairs (codes n g)))
theorem st2s (l : List (Nat × Nat)) : (l.map st2).map fV = (l.map fun s => V.str ⟨#[s.1, s.2]⟩).map some := by
  rw [List.map_map, List.map_map]
  rfl
theorem flat2 (l : List (Nat × Nat)) : (l.map fun s => V.str ⟨#[s.1, s.2]⟩).all flatV = true := by
  rw [List.all_map, List.all_eq_true]
  exact fun _ _ => rfl
theorem countAB {l : List (Nat × Nat)} (h : ∀ s ∈ l, Code s.1 ∧ Code s.2) : (l.map fun s => V.str ⟨#[s.1, s.2]⟩).countP (fun z => eqV z (.str "ab")) = l.countP isAB := by
  rw [List.countP_map]
  exact List.countP_congr fun s hs => by
    show eqV (V.str ⟨#[s.1, s.2]⟩) (.str "ab") = true ↔ isAB s = true
    rw [eqAB s (h s hs)]
theorem countBA {l : List (Nat × Nat)} (h : ∀ s ∈ l, Code s.1 ∧ Code s.2) : (l.map fun s => V.str ⟨#[s.1, s.2]⟩).countP (fun z => eqV z (.str "ba")) = l.countP isBA := by
  rw [List.countP_map]
  exact List.countP_congr fun s hs => by
    show eqV (V.str ⟨#[s.1, s.2]⟩) (.str "ba") = true ↔ isBA s = true
    rw [eqBA s (h s hs)]
def P_doors : List PyData → List PyData → Prop := fun ds es => ∃ n g, Tri n g ∧ ds = [.list (triD n g)] ∧ es = (doorsOf (pairs (codes n g))).map fun i => .int (i : Nat)
theorem mapIdxGet {α : Type} (z : α) (f : Nat → α → PyData) (l : List α) : l.mapIdx f = (List.range l.length).map fun i => f i (l.getD i z) := by
  refine List.ext_getElem? fun i => ?_
  rw [List.getElem?_mapIdx, List.getElem?_map]
  by_cases hi : i < l.length
  · rw [List.getElem?_range hi, List.getElem?_eq_getElem hi]
    show some (f i l[i]) = some (f i (l.getD i z))
    rw [List.getD_eq_getElem?_getD, List.getElem?_eq_getElem hi]
    rfl
  · rw [List.getElem?_eq_none (by omega), List.getElem?_eq_none (by rw [List.length_range]; omega)]
    rfl
/-! turn -/
def P_turn : List PyData → PyData → Prop := P_turn_of
/-! put -/
def P_put : List PyData → List PyData → Prop := fun ds es => ∃ n g r p c, Tri n g ∧ r + p < n ∧ Code c ∧ ds = [.list (triD n g), .int (r : Nat), .int (p : Nat), .str ⟨#[c]⟩] ∧ es = triD n (putG g r p c)
end

open PySem L2 Evl PyProof.Rows

def l3 (g : Nat → Nat → Nat) (s : Nat × Nat × Nat) : Str := if s.2.2 = 1 then w3 (g s.1 s.2.1) (g s.1 (s.2.1 + 1)) (g (s.1 + 1) s.2.1) else w3 (g s.1 (s.2.1 + 1)) (g (s.1 + 1) (s.2.1 + 1)) (g (s.1 + 1) s.2.1)
def slD (g : Nat → Nat → Nat) (s : Nat × Nat × Nat) : PyData := .tuple [smD s, .str (l3 g s)]
theorem slD_noL (g : Nat → Nat → Nat) (s : Nat × Nat × Nat) : noL (slD g s) = true := by
  unfold slD
  rw [noL, noLs, smD_noL, noLs, noL, noLs]
  rfl
theorem l3As (g : Nat → Nat → Nat) {n : Nat} (tri : Tri n g) (s : Nat × Nat × Nat) : ∃ a b c, Code a ∧ Code b ∧ Code c ∧ l3 g s = w3 a b c ∧ trn g s = turn3 a b c := by
  unfold l3 trn
  split
  · exact ⟨_, _, _, tri.ok _ _, tri.ok _ _, tri.ok _ _, rfl, rfl⟩
  · exact ⟨_, _, _, tri.ok _ _, tri.ok _ _, tri.ok _ _, rfl, rfl⟩
theorem w3App (a b c : Nat) : (⟨#[a]⟩ : Str) ++ ⟨#[b]⟩ ++ ⟨#[c]⟩ = w3 a b c := rfl

/-! the side once round -/
def cyc (n : Nat) (g : Nat → Nat → Nat) (i : Nat) : Nat := if i ≤ n - 1 then g 0 i else if i ≤ (n - 1) + (n - 1) then g (i - (n - 1)) ((n - 1) + (n - 1) - i) else g ((n - 1) + (n - 1) + (n - 1) - i) 0
theorem rangeApp {α : Type} (f : Nat → α) (a b : Nat) : (List.range (a + b)).map f = (List.range a).map f ++ (List.range b).map fun i => f (a + i) := by
  induction b with
  | zero => simp
  | succ b ih =>
    rw [Nat.add_succ, List.range_succ, List.map_append, ih, List.range_succ, List.map_append, List.append_assoc]
    rfl
theorem codesCyc {n : Nat} (g : Nat → Nat → Nat) (h : 2 ≤ n) : codes n g = (List.range ((n - 1) + (n - 1) + (n - 1))).map (cyc n g) := by
  rw [rangeApp, rangeApp]
  unfold codes spots
  rw [List.map_append, List.map_append, List.map_map, List.map_map, List.map_map]
  congr 1
  · congr 1
    · refine List.map_congr_left fun i hi => ?_
      rw [List.mem_range] at hi
      show g 0 i = cyc n g i
      unfold cyc
      rw [if_pos (by omega)]
    · refine List.map_congr_left fun i hi => ?_
      rw [List.mem_range] at hi
      show g i (n - 1 - i) = cyc n g (n - 1 + i)
      unfold cyc
      by_cases h0 : i = 0
      · subst h0
        rw [if_pos (by omega)]
        rfl
      · rw [if_neg (by omega), if_pos (by omega), show n - 1 + i - (n - 1) = i by omega, show n - 1 + (n - 1) - (n - 1 + i) = n - 1 - i by omega]
  · refine List.map_congr_left fun i hi => ?_
    rw [List.mem_range] at hi
    show g (n - 1 - i) 0 = cyc n g (n - 1 + (n - 1) + i)
    unfold cyc
    by_cases h0 : i = 0
    · subst h0
      rw [if_neg (by omega), if_pos (by omega), show n - 1 + (n - 1) + 0 - (n - 1) = n - 1 - 0 by omega, show n - 1 + (n - 1) - (n - 1 + (n - 1) + 0) = 0 by omega]
    · rw [if_neg (by omega), if_neg (by omega), show n - 1 + (n - 1) + (n - 1) - (n - 1 + (n - 1) + i) = n - 1 - i by omega]
theorem cycEnd {n : Nat} (g : Nat → Nat → Nat) (h : 2 ≤ n) : cyc n g ((n - 1) + (n - 1) + (n - 1)) = g 0 0 := by
  unfold cyc
  rw [if_neg (by omega), if_neg (by omega), Nat.sub_self]
theorem cycZero (n : Nat) (g : Nat → Nat → Nat) : cyc n g 0 = g 0 0 := by
  unfold cyc
  rw [if_pos (Nat.zero_le _)]
theorem pairsCyc {n : Nat} (g : Nat → Nat → Nat) (h : 2 ≤ n) : pairs (codes n g) = (List.range ((n - 1) + (n - 1) + (n - 1))).map fun i => (cyc n g i, cyc n g (i + 1)) := by
  have e0 := cycEnd g h
  have e1 := cycZero n g
  have ec := codesCyc g h
  generalize hm : (n - 1) + (n - 1) + (n - 1) = m at *
  have hm0 : 0 < m := by omega
  refine List.ext_getElem? fun i => ?_
  unfold pairs rot
  rw [ec, List.getElem?_map]
  by_cases hi : i < m
  · rw [List.getElem?_range hi, List.getElem?_zip_eq_some.mpr]
    show (some (cyc n g i, cyc n g (i + 1))) = _
    rfl
    refine ⟨by rw [List.getElem?_map, List.getElem?_range hi]; rfl, ?_⟩
    rw [List.getElem?_append, List.length_drop, List.length_map, List.length_range]
    by_cases h1 : i < m - 1
    · rw [if_pos h1, List.getElem?_drop, List.getElem?_map, List.getElem?_range (by omega), Nat.add_comm 1 i]
      rfl
    · have e2 : i = m - 1 := by omega
      rw [if_neg h1, List.getElem?_take, if_pos (by omega), List.getElem?_map, List.getElem?_range (by omega)]
      show some (cyc n g (i - (m - 1))) = some (cyc n g (i + 1))
      rw [show i - (m - 1) = 0 by omega, show i + 1 = m by omega, e0, e1]
  · have z1 : ((List.map (cyc n g) (List.range m)).zip (List.drop 1 (List.map (cyc n g) (List.range m)) ++ List.take 1 (List.map (cyc n g) (List.range m)))).length ≤ i := by
      rw [List.length_zip, List.length_map, List.length_range]
      omega
    rw [List.getElem?_eq_none z1, List.getElem?_eq_none (by rw [List.length_range]; omega)]
    rfl
/-! the count, by the side -/
theorem countSum : ∀ l : List (Nat × Nat), aroundOf l = (l.map fun s => eg s.1 s.2).sum
  | [] => rfl
  | (a, b) :: l => by
    have ih := countSum l
    unfold aroundOf at ih ⊢
    rw [List.countP_cons, List.countP_cons, List.map_cons, List.sum_cons, ← ih]
    show _ = eg a b + _
    unfold eg
    have e1 : isAB (a, b) = decide (a = 97 ∧ b = 98) := by
      unfold isAB
      simp
    have e2 : isBA (a, b) = decide (a = 98 ∧ b = 97) := by
      unfold isBA
      simp
    rw [e1, e2]
    by_cases h1 : a = 97 ∧ b = 98
    · rw [if_pos h1, decide_eq_true h1, decide_eq_false (by omega)]
      simp
      omega
    · rw [if_neg h1, decide_eq_false h1]
      by_cases h2 : a = 98 ∧ b = 97
      · rw [if_pos h2, decide_eq_true h2]
        simp
        omega
      · rw [if_neg h2, decide_eq_false h2]
        simp
theorem sumRev (F : Nat → Int) : ∀ m, ((List.range m).map fun k => F (m - 1 - k)).sum = ((List.range m).map F).sum
  | 0 => rfl
  | m + 1 => by
    have ih := sumRev F m
    have r : ((List.range (m + 1)).map F).sum = ((List.range m).map F).sum + F m := by
      rw [List.range_succ, List.map_append, List.sum_append]
      show _ + (F m + 0) = _
      omega
    rw [r, ← ih, List.range_succ_eq_map, List.map_cons, List.sum_cons, List.map_map]
    have e : ((fun k => F (m + 1 - 1 - k)) ∘ Nat.succ) = fun k => F (m - 1 - k) := by
      funext k
      show F (m + 1 - 1 - (k + 1)) = F (m - 1 - k)
      rw [show m + 1 - 1 - (k + 1) = m - 1 - k by omega]
    rw [e]
    show F m + _ = _ + F m
    omega
theorem aroundTurns {n : Nat} (g : Nat → Nat → Nat) (h : 2 ≤ n) : aroundOf (pairs (codes n g)) = ((smAll n).map (trn g)).sum := by
  have e : ((smAll n).map (trn g)).sum = smSum g (smAll n) := rfl
  rw [e, turnsSide, countSum, pairsCyc g h, List.map_map, rangeApp, rangeApp, List.sum_append, List.sum_append]
  congr 1
  · congr 1
    · unfold along
      congr 1
      refine List.map_congr_left fun i hi => ?_
      rw [List.mem_range] at hi
      show eg (cyc n g i) (cyc n g (i + 1)) = _
      unfold cyc
      rw [if_pos (by omega), if_pos (by omega)]
    · unfold rightUp
      congr 1
      refine List.map_congr_left fun i hi => ?_
      rw [List.mem_range] at hi
      show eg (cyc n g (n - 1 + i)) (cyc n g (n - 1 + i + 1)) = _
      have z : ∀ k, k ≤ n - 1 → cyc n g (n - 1 + k) = g k (n - 1 - k) := fun k hk => by
        unfold cyc
        by_cases h0 : k = 0
        · subst h0
          rw [if_pos (by omega)]
          rfl
        · rw [if_neg (by omega), if_pos (by omega), show n - 1 + k - (n - 1) = k by omega, show n - 1 + (n - 1) - (n - 1 + k) = n - 1 - k by omega]
      rw [z i (by omega), Nat.add_assoc, z (i + 1) (by omega)]
  · unfold leftDown
    rw [← sumRev (fun r => eg (g (r + 1) 0) (g r 0)) (n - 1)]
    congr 1
    refine List.map_congr_left fun i hi => ?_
    rw [List.mem_range] at hi
    show eg (cyc n g (n - 1 + (n - 1) + i)) (cyc n g (n - 1 + (n - 1) + i + 1)) = _
    have z : ∀ k, k ≤ n - 1 → cyc n g (n - 1 + (n - 1) + k) = g (n - 1 - k) 0 := fun k hk => by
      unfold cyc
      by_cases h0 : k = 0
      · subst h0
        rw [if_neg (by omega), if_pos (by omega), show n - 1 + (n - 1) + 0 - (n - 1) = n - 1 - 0 by omega, show n - 1 + (n - 1) - (n - 1 + (n - 1) + 0) = 0 by omega]
      · rw [if_neg (by omega), if_neg (by omega), show n - 1 + (n - 1) + (n - 1) - (n - 1 + (n - 1) + k) = n - 1 - k by omega]
    rw [z i (by omega), Nat.add_assoc, z (i + 1) (by omega), show n - 1 - 1 - i + 1 = n - 1 - i by omega, show n - 1 - (i + 1) = n - 1 - 1 - i by omega]
theorem ddIs {a b c : Nat} (ha : Code a) (hb : Code b) (hc : Code c) : decide (((dd (w3 a b c).cps.toList).length : Int) < 3) = decide (turn3 a b c = 0) := by
  rcases ha with rfl | rfl | rfl <;> rcases hb with rfl | rfl | rfl <;> rcases hc with rfl | rfl | rfl <;> decide +kernel
theorem findIs {a b c : Nat} (ha : Code a) (hb : Code b) (hc : Code c) (h : ¬ turn3 a b c = 0) : (if decide ((0 : Int) ≤ Txt.find (w3 a b c ++ w3 a b c) "abc") = true then (1 : Int) else -1) = turn3 a b c := by
  rcases ha with rfl | rfl | rfl <;> rcases hb with rfl | rfl | rfl <;> rcases hc with rfl | rfl | rfl <;> first | exact absurd (by decide +kernel) h | decide +kernel

section
variable {P : Program} {w : World} {K : PySem.W.Frag} {mg : Str → Option Value} {base : Heap}

/-! _law_smalls -/
def P__law_smalls : List PyData → List PyData → Prop := fun ds es => ∃ n g, Tri n g ∧ ds = [.list (triD n g)] ∧ es = (smAll n).map (slD g)
/-! _law_turn -/
def P__law_turn : List PyData → PyData → Prop := fun ds d => ∃ a b c, Code a ∧ Code b ∧ Code c ∧ ds = [.str (w3 a b c)] ∧ d = .int (turn3 a b c)
/-! _law_side -/
def P__law_side : List PyData → PyData → Prop := fun ds d => ∃ n g, Tri n g ∧ ds = [.list (triD n g)] ∧ d = .str (sOf ((List.range ((n - 1) + (n - 1) + (n - 1) + 1)).map (cyc n g)))
end

open PySem L2 Evl PyProof.Rows

/-! joined signs, the last sign, all but the last -/
theorem gluedFold : ∀ (l : List Nat) (acc : Array Nat), ((l.map fun c => (⟨#[c]⟩ : Str)).foldl (fun acc p => acc ++ ("" : Str).cps ++ p.cps) acc).toList = acc.toList ++ l
  | [], acc => by simp
  | c :: l, acc => by
    rw [List.map_cons, List.foldl_cons, gluedFold l]
    have e : (("" : Str).cps : Array Nat) = #[] := by decide +kernel
    rw [e]
    simp
theorem joinSigns (l : List Nat) : Txt.join ("" : Str) (l.map fun c => (⟨#[c]⟩ : Str)) = sOf l := by
  cases l with
  | nil => decide +kernel
  | cons c l =>
    have h := gluedFold l #[c]
    show (⟨((l.map fun c => (⟨#[c]⟩ : Str)).foldl (fun acc p => acc ++ ("" : Str).cps ++ p.cps) #[c])⟩ : Str) = ⟨(c :: l).toArray⟩
    congr 1
    refine Array.toList_inj.mp ?_
    rw [h]
    rfl
theorem signsSum (l : List Nat) : ((l.map fun c => (⟨#[c]⟩ : Str)).map (·.length)).sum = l.length := by
  induction l with
  | nil => rfl
  | cons c l ih =>
    rw [List.map_cons, List.map_cons, List.sum_cons, ih, List.length_cons]
    show 1 + l.length = _
    omega
theorem cutSBut (l : List Nat) : cutS (sOf l) none (some (-1)) = sOf (l.take (l.length - 1)) := by
  unfold cutS
  have e : HT.sIx (sOf l).length (sOf l).length (some (-1)) = l.length - 1 := by
    rw [sOfLen]
    show (if (-1 : Int) < 0 then ((-1 : Int) + (l.length : Int)).toNat else min (-1 : Int).toNat l.length) = l.length - 1
    rw [if_pos (by decide)]
    omega
  rw [e, HT.sIx_none, Nat.sub_zero, List.drop_zero]
  rfl
theorem atLast {α : Type} {l : List α} {x : α} (h : l[l.length - 1]? = some x) : atI l (-1) = some x := by
  obtain ⟨hl, _⟩ := List.getElem?_eq_some_iff.mp h
  unfold atI ixN
  rw [if_neg (by decide), if_pos (by omega)]
  show l[((-1 : Int) + (l.length : Int)).toNat]? = some x
  rw [show ((-1 : Int) + (l.length : Int)).toNat = l.length - 1 by omega]
  exact h
/-! data that may be compared -/
def okD (k : Nat) (d : PyData) : Prop := d.canLay0 = true ∧ d.depth ≤ k
theorem layAll : ∀ {ds : List PyData} {k : Nat}, (∀ d ∈ ds, okD k d) → PyData.canLayAll0 ds = true ∧ PyData.depthAll ds ≤ k
  | [], k, _ => by
    rw [PyData.canLayAll0, PyData.depthAll]
    exact ⟨rfl, Nat.zero_le _⟩
  | d :: ds, k, h => by
    have h1 := h d List.mem_cons_self
    have h2 := layAll (ds := ds) fun e he => h e (List.mem_cons_of_mem _ he)
    rw [PyData.canLayAll0, PyData.depthAll, h1.1, h2.1]
    exact ⟨rfl, Nat.max_le.mpr ⟨h1.2, h2.2⟩⟩
theorem okL {ds : List PyData} {k : Nat} (h : ∀ d ∈ ds, okD k d) : okD (k + 1) (.list ds) := by
  have z := layAll h
  unfold okD
  rw [PyData.canLay0, PyData.depth]
  exact ⟨z.1, Nat.succ_le_succ z.2⟩
theorem okT {ds : List PyData} {k : Nat} (h : ∀ d ∈ ds, okD k d) : okD (k + 1) (.tuple ds) := by
  have z := layAll h
  unfold okD
  rw [PyData.canLay0, PyData.depth]
  exact ⟨z.1, Nat.succ_le_succ z.2⟩
theorem okI (i : Int) (k : Nat) : okD k (.int i) := by
  unfold okD
  rw [PyData.canLay0, PyData.depth]
  exact ⟨rfl, Nat.zero_le _⟩
theorem okS {l : List Nat} (h : ∀ c ∈ l, Code c) (k : Nat) : okD k (.str (sOf l)) := by
  unfold okD
  rw [PyData.canLay0, PyData.depth]
  refine ⟨?_, Nat.zero_le _⟩
  show (l.toArray.all (· < 0x110000)) = true
  rw [List.all_toArray, List.all_eq_true]
  intro c hc
  rcases h c hc with rfl | rfl | rfl <;> decide
theorem okM {α : Type} {L : List α} {f : α → PyData} {k : Nat} (h : ∀ a ∈ L, okD k (f a)) : ∀ d ∈ L.map f, okD k d := fun d hd => by
  obtain ⟨a, ha, rfl⟩ := List.mem_map.mp hd
  exact h a ha
theorem shp {d : PyData} {k : Nat} (h : okD k d) (hk : k ≤ 64 := by decide) : SeqAt.shaped d = true := by
  unfold SeqAt.shaped
  rw [h.1, decide_eq_true (Nat.le_trans h.2 hk)]
  rfl
theorem triOk {n : Nat} {g : Nat → Nat → Nat} (tri : Tri n g) : okD 1 (.list (triD n g)) := okL (okM fun r _ => okS (l := (List.range (n - r)).map (g r)) (fun c hc => by
  obtain ⟨p, _, rfl⟩ := List.mem_map.mp hc
  exact tri.ok r p) 0)
theorem smOk (s : Nat × Nat × Nat) : okD 1 (smD s) := okT fun d hd => by
  rcases List.mem_cons.mp hd with rfl | hd
  · exact okI _ 0
  · rcases List.mem_cons.mp hd with rfl | hd
    · exact okI _ 0
    · rw [List.mem_singleton] at hd
      subst hd
      exact okI _ 0
theorem smsOk (l : List (Nat × Nat × Nat)) : okD 2 (.list (l.map smD)) := okL (okM fun s _ => smOk s)
theorem intsOk (l : List Nat) : okD 1 (.list (l.map fun i => .int (i : Nat))) := okL (okM fun i _ => okI _ 0)

def dueD (g : Nat → Nat → Nat) (s : Nat × Nat × Nat) : PyData := .tuple [smD s, .int (trn g s)]
theorem dueD_noL (g : Nat → Nat → Nat) (s : Nat × Nat × Nat) : noL (dueD g s) = true := by
  unfold dueD
  rw [noL, noLs, smD_noL, noLs, noL, noLs]
  rfl
theorem pickMap {α β : Type} (f : α → β) (L : List α) : ∀ l : List Nat, l.filterMap ((L.map f)[·]?) = (l.filterMap (L[·]?)).map f
  | [] => rfl
  | i :: l => by
    have ih := pickMap f L l
    cases h : L[i]? with
    | none => rw [List.filterMap_cons_none (by rw [List.getElem?_map, h]; rfl), List.filterMap_cons_none h, ih]
    | some x => rw [List.filterMap_cons_some (by rw [List.getElem?_map, h]; rfl), List.filterMap_cons_some h, List.map_cons, ih]
theorem pickLen {α : Type} (L : List α) (k : Int) : ((ixs L.length k).filterMap (L[·]?)).length ≤ L.length := by
  have h := slicePick_size_le (L.map fun _ => Value.none).toArray none none (some k)
  have e : slicePick (L.map fun _ => Value.none).toArray none none (some k) = ((ixs L.length k).filterMap ((L.map fun _ => Value.none)[·]?)).toArray := by
    unfold slicePick ixs
    rw [List.size_toArray, List.length_map]
    congr 2
    funext i
    rw [List.getElem?_toArray]
  rw [e, List.size_toArray, List.size_toArray, pickMap, List.length_map, List.length_map] at h
  exact h
theorem pickIn {α : Type} (L : List α) (l : List Nat) : ∀ x ∈ l.filterMap (L[·]?), x ∈ L := fun x hx => by
  obtain ⟨i, _, hi⟩ := List.mem_filterMap.mp hx
  exact List.mem_of_getElem? hi
theorem cutTo (ds : List PyData) (k : Nat) : cutD ds none (some (k : Int)) = ds.take k := by
  unfold cutD
  rw [show HT.sIx ds.length ds.length (some (k : Int)) = min k ds.length from HT.sIx_nat ds.length _ k, HT.sIx_none, List.drop_zero, Nat.sub_zero, ← List.take_take, List.take_length]

section
variable {K : PySem.W.Frag} {σ : L2.St} {H H' : Hp} {te : TE} {d : PyData} {D : Ends} {tz : TS} {wi : TI} {g : TG}
theorem enRev {ds : List PyData} (h : EvD K te σ H (.list ds)) : EvN K (tRevL K te) σ H ds.reverse := fun H1 a Q q =>
  h H1 a _ fun v H2 b hv => by
    obtain ⟨p, xs, rfl, hs, hr⟩ := dpLst hv
    exact ⟨p, xs, rfl, hs, fun l hl => q l _ _ (fresh_back b hl) (b.trans (Ex.new hl)) upd_same (dpsUp (Ex.new hl) (dpsRev hr))⟩
theorem qFor {α : Type} {tu : TS} (L : List α) (enc : α → PyData) (h : IdD K wi σ H (L.map enc)) (Iv : Nat → L2.St → Prop) (h0 : Iv 0 σ)
    (hb : ∀ H0, Ex H H0 → ∀ i a, L[i]? = some a → ∀ σ1 H1 x, Iv i σ1 → Ex H0 H1 → Dp K H1 x (enc a) → g x σ1 H1 fun σ2 H2 => tu { D with nx := fun σ' H' => Iv (i + 1) σ' ∧ Ex H0 H', ct := fun σ' H' => Iv (i + 1) σ' ∧ Ex H0 H', bk := tz D } σ2 H2)
    (hd : ∀ σ1 H1, Iv L.length σ1 → Ex H H1 → tz D σ1 H1) : tSeq (tFor wi g tu) tz D σ H := sFor (D := { D with nx := tz D }) L enc h Iv h0 hb hd
end

section
variable {P : Program} {w : World} {K : PySem.W.Frag} {mg : Str → Option Value} {base : Heap}

/-! _law_side -/
end

open PySem L2 Evl PyProof.Rows
section
variable {P : Program} {w : World} {K : PySem.W.Frag} {mg : Str → Option Value} {base : Heap}

def P__law_right : List PyData → PyData → Prop := fun ds d => ∃ n g, Tri n g ∧ ds = [.list (triD n g)] ∧ d = .bool true
end

end Dt

/-! if k > 1 and ..: t = t.replace(..): the written number in the test gives a token out. -/
namespace Dt
open PySem L2 Evl PyProof.Rows

structure PTK (X : Cx) (e : Expr) (t : TT) : Prop where
  run : ∀ (pins : List (Addr × Obj)) (s : Shared) (σ : L2.St) (H : Hp) (Q : Bool → Hp → Prop), Inv X pins σ H s → t σ H Q → wpAny (model X.prog X.w) X.A (isTrue e X.env (eval e X.env)) (fun b s' => 1 ≤ s'.toks ∧ TP X pins σ Q b s') X.xe s
section
variable {X : Cx} {a b : Expr} {rest : List Expr} {ta : TE} {t u : TT} {pos p2 : Pos} {j : Nat} {i : Int}
theorem ptk_gt (ha : PE X a ta) : PTK X (.Compare a [.Gt] [.Constant (.int i) j p2] pos) (tTest (tOp (rI0 fun i j => .bl (decide (j < i))) ta (tC (.int i)))) := by
  refine ⟨fun pins s σ H Q I h => wpAny_isTrue_Compare1 (thn (ha.run pins s σ H _ I h) fun v s1 w1 => ?_) (nomark _)⟩
  obtain ⟨x, H1, I1, r1, q1⟩ := w1
  refine wpAny_Constant_int ?_
  obtain ⟨m, k, rfl, e, q1⟩ := q1
  cases e
  obtain ⟨tk, rfl⟩ := r1
  refine gt_int ?_
  obtain ⟨c, e, q2⟩ := q1
  cases e
  exact wpAny_truthy_bool ⟨Nat.le_add_left 1 s1.toks, H1, I1.tok _, q2⟩
theorem pwk_and (ha : PTK X a t) (hb : PW X (.BoolOp .And (b :: rest) pos) u) : PTK X (.BoolOp .And (a :: b :: rest) pos) (tAnd t u) := by
  refine ⟨fun pins s σ H Q I h => isTrue_and (thn (ha.run pins s σ H _ I h) fun c s1 w1 => ?_)⟩
  obtain ⟨hk, H1, I1, q1⟩ := w1
  cases c with
  | true => exact wpAny_mono (wpAny_toks_of hk (hb.run _ pins s1 σ H1 Q I1 q1)) (fun _ _ z => z) fun _ _ z => z.2
  | false => exact ⟨hk, H1, I1, q1⟩
/-- if c: x = x.replace('y', 'z') -/
theorem ps_ifRepl {c : Expr} {tc : TT} {x y z : Str} {n1 n2 : Nat} {p0 p1 c0 c1 apos cpos spos : Pos} (hc : PTK X c tc) {i : Nat} (hN : X.N.Nodup) (hi : X.N[i]? = some x) (hx : Loc X.env.scope x)
    (hyz : (y == z) = false := by decide +kernel) (hv : Vis X.env.scope x := by exact Or.inl rfl) (hf : X.fn x = true ∨ X.env.scope.names.lookup x = some .local := by exact Or.inr rfl) (hd : (x == ("__debug__" : Str)) = false := by decide) (hcd : (x == ("__classdict__" : Str)) = false := by decide)
    (hs : swapsWith (.Call (.Attribute (.Name x p1) "replace" apos) [.Constant (.str y) n1 c0, .Constant (.str z) n2 c1] [] cpos) (some (.Name x p0)) spos.line X.env = pure false := by rfl)
    (hst : starEach [.Constant (.str y) n1 c0, .Constant (.str z) n2 c1] X.env = [(false, eval (.Constant (.str y) n1 c0) X.env), (false, eval (.Constant (.str z) n2 c1) X.env)] := by rfl)
    (hbase : attributeBase (.Name x p1) "replace" X.env (eval (.Name x p1) X.env) = eval (.Name x p1) X.env := by rfl) (hline : (apos.endLine == cpos.line) = true := by rfl) :
    PS X (.If c [.Assign [.Name x p0] (.Call (.Attribute (.Name x p1) "replace" apos) [.Constant (.str y) n1 c0, .Constant (.str z) n2 c1] [] cpos) spos] [] pos) (tIfS tc (tAsg (CwR.tReplC (tVar i) y z) (gName i)) tNext) := by
  have pet := CwR.pet_replC (X := X) (pe_var (pos := p1) hi hv hd hcd) hyz hst hbase hline
  refine ⟨fun pins s σ H D I h => wpAny_If (thn (hc.run pins s σ H _ I h) fun d s1 w1 => ?_)⟩
  obtain ⟨hk, H1, I1, q1⟩ := w1
  cases d with
  | true =>
    have q1 : CwR.tReplC (tVar i) y z σ H1 (fun v H2 => gName i v σ H2 D.nx) := q1
    refine wpAny_execs_cons (thn (Q := fun f s' => SP X pins D .next s' ∧ f = .next) (wpAny_Assign_Name (thn (pet pins s1 σ H1 _ hk I1 q1) fun v s2 w2 => ?_) hs) fun f s3 q3 => ?_)
    · obtain ⟨yv, H2, I2, r2, q2⟩ := w2
      exact store_ok I2 hN hi hx r2 (fun s3 I3 => ⟨⟨_, H2, I3, q2⟩, rfl⟩) hf
    · obtain ⟨q3, rfl⟩ := q3
      exact wpAny_execs_nil q3
  | false => exact wpAny_execs_nil ⟨σ, H1, I1, q1⟩
end
section
variable {K : PySem.W.Frag} {σ : L2.St} {H H' : Hp} {t : TT} {D : Ends} {tz : TS}
/-- .. and what follows it, by the text that stands there behind it -/
theorem cRepl {b : Bool} {i : Nat} {x y z o : Str} (h : EvT t σ H b) (hx : σ[i]? = some (some (.str x))) (hl : x.length + (x.length + 1) * z.length ≤ 16777216) (ho : o = if b = true then Txt.replace x y z else x) (hs : b = false → σ.set i (some (.str o)) = σ)
    (k : ∀ H1, Ex H H1 → tz D (σ.set i (some (.str o))) H1) : tCut (tIfS t (tAsg (CwR.tReplC (tVar i) y z) (gName i)) tNext) tz D σ H := by
  refine ⟨fun σ' H' => σ' = σ.set i (some (.str o)) ∧ Ex H H', h H (Ex.refl H) _ fun H1 e => ?_, fun σ' H' w => ?_⟩
  · cases b with
    | true =>
      refine ⟨.str x, hx, x, rfl, hl, ?_⟩
      rw [ho]
      exact ⟨rfl, e⟩
    | false => exact ⟨(hs rfl).symm, e⟩
  · obtain ⟨rfl, e⟩ := w
    exact k H' e
end
end Dt

/-! The drawn triangle: what it is made of. -/
namespace Dt
open PySem L2 Evl PyProof.Rows
open PySem L2 Evl PyProof.Rows

section
variable {K : PySem.W.Frag} {σ : L2.St} {H H' : Hp} {t : TT} {tu : TS} {D : Ends} {tz : TS}
theorem cIf {b : Bool} (h : EvT t σ H b) (M : L2.St → Hp → Prop) (h1 : b = true → ∀ H1, Ex H H1 → tu { D with nx := M } σ H1) (h2 : b = false → ∀ H1, Ex H H1 → M σ H1) (k : ∀ σ' H', M σ' H' → tz D σ' H') : tCut (tIfS t tu tNext) tz D σ H := by
  refine ⟨M, h H (Ex.refl H) _ fun H1 e => ?_, k⟩
  cases b with
  | true => exact h1 rfl H1 e
  | false => exact h2 rfl H1 e
end
structure Two (H0 : Hp) (p q : Addr) (m : Nat) (ls : List (List Nat)) (H : Hp) : Prop where
  a : H0 p = none
  b : H0 q = none
  ne : p ≠ q
  ex : Ex H0 H
  l : H p = some (.lst (ls.map fun l => V.str (sOf l)))
  r : ∃ ms : List Int, ms.length = m ∧ H q = some (.lst (ms.map V.int))
theorem Two.up {H0 H H' : Hp} {p q : Addr} {m : Nat} {ls : List (List Nat)} (h : Two H0 p q m ls H) (e : Ex H H') : Two H0 p q m ls H' := by
  obtain ⟨ms, h1, h2⟩ := h.r
  exact ⟨h.a, h.b, h.ne, h.ex.trans e, e _ _ h.l, ms, h1, e _ _ h2⟩
theorem Two.left {H0 H : Hp} {p q : Addr} {m : Nat} {ls : List (List Nat)} (h : Two H0 p q m ls H) (ms : List Int) (hm : ms.length = m) : Two H0 p q m ls (upd H q (.lst (ms.map V.int))) :=
  ⟨h.a, h.b, h.ne, h.ex.mut h.b, by rw [upd_ne h.ne]; exact h.l, ms, hm, upd_same⟩
theorem Two.found {H0 H : Hp} {p q : Addr} {m : Nat} {ls : List (List Nat)} (h : Two H0 p q m ls H) (ks : List (List Nat)) : Two H0 p q m ks (upd H p (.lst (ks.map fun l => V.str (sOf l)))) := by
  obtain ⟨ms, h1, h2⟩ := h.r
  exact ⟨h.a, h.b, h.ne, h.ex.mut h.a, upd_same, ms, h1, by rw [upd_ne h.ne.symm]; exact h2⟩
theorem flatL {K : PySem.W.Frag} {H : Hp} {a : Addr} {vs : List V} {ds : List PyData} (h : H a = some (.lst vs)) (hd : DpAll K H vs ds) : Dp K H (.ref a) (.list ds) := dpOfL h hd
theorem dpsInts {K : PySem.W.Frag} {H : Hp} : ∀ ms : List Int, DpAll K H (ms.map V.int) (ms.map .int)
  | [] => .nil
  | m :: ms => .cons (.int m) (dpsInts ms)
theorem dpsTexts {K : PySem.W.Frag} {H : Hp} : ∀ ls : List (List Nat), DpAll K H (ls.map fun l => V.str (sOf l)) (ls.map fun l => .str (sOf l))
  | [] => .nil
  | l :: ls => .cons (.str _) (dpsTexts ls)
def Rws (n : Nat) (ls : List (List Nat)) : Prop := ∀ (j : Nat) (l : List Nat), ls[j]? = some l → l.length = n - j ∧ ∀ c ∈ l, Code c
instance (c : Nat) : Decidable (Code c) := inferInstanceAs (Decidable (c = 97 ∨ c = 98 ∨ c = 99))
def gOf' (ls : List (List Nat)) (r p : Nat) : Nat := if decide (Code ((ls.getD r []).getD p 97)) = true then (ls.getD r []).getD p 97 else 97
theorem gOfOk (ls : List (List Nat)) (r p : Nat) : Code (gOf' ls r p) := by
  unfold gOf'
  split
  · rename_i h
    exact of_decide_eq_true h
  · exact .inl rfl
theorem gOfRow {n : Nat} {ls : List (List Nat)} (hn : ls.length = n) (h : Rws n ls) : (ls.map fun l => PyData.str (sOf l)) = triD n (gOf' ls) := by
  refine List.ext_getElem? fun r => ?_
  unfold triD
  rw [List.getElem?_map, List.getElem?_map]
  by_cases hr : r < n
  · rw [List.getElem?_range hr]
    have e1 : ls[r]? = some ls[r] := List.getElem?_eq_getElem (by omega)
    obtain ⟨h1, h2⟩ := h r _ e1
    rw [e1]
    show some (PyData.str (sOf ls[r])) = some (PyData.str (rowS n (gOf' ls) r))
    rw [rowSOf]
    congr 3
    refine List.ext_getElem? fun p => ?_
    rw [List.getElem?_map]
    by_cases hp : p < n - r
    · rw [List.getElem?_range hp]
      have e2 : ls[r][p]? = some ls[r][p] := List.getElem?_eq_getElem (by omega)
      have e3 : (ls.getD r []).getD p 97 = ls[r][p] := by
        rw [List.getD_eq_getElem?_getD, List.getD_eq_getElem?_getD, e1]
        show (ls[r][p]?).getD 97 = _
        rw [e2]
        rfl
      rw [e2]
      show some ls[r][p] = some (gOf' ls r p)
      unfold gOf'
      rw [e3, if_pos (decide_eq_true (h2 _ (List.getElem_mem (by omega))))]
    · rw [List.getElem?_eq_none (by omega), List.getElem?_eq_none (by rw [List.length_range]; omega)]
      rfl
  · rw [List.getElem?_eq_none (by omega), List.getElem?_eq_none (by rw [List.length_range]; omega)]
    rfl
theorem ofEmpty : ("" : Str) = sOf [] := by decide +kernel
theorem abcAt {i : Int} (h0 : 0 ≤ i) (h3 : i < 3) : ∃ c, Code c ∧ atI ("abc" : Str).cps.toList i = some c := by
  have : i = 0 ∨ i = 1 ∨ i = 2 := by omega
  rcases this with rfl | rfl | rfl
  · exact ⟨97, .inl rfl, by decide +kernel⟩
  · exact ⟨98, .inr (.inl rfl), by decide +kernel⟩
  · exact ⟨99, .inr (.inr rfl), by decide +kernel⟩
/-- the letters that may come, by what is taken out -/
def okW (x : Str) : Bool := x.cps.toList.all (fun c => decide (Code c)) && (decide (x.length = 1) || decide (x.length = 2) || decide (x.length = 3) || decide (x.length = 6))
def fR (b : Bool) (y x : Str) : Str := if b then Txt.replace x y "" else x
theorem okRepl (b1 b2 b3 : Bool) (h : (b1 && b2 && b3) = false) : okW (fR b3 "a" (fR b2 "b" (fR b1 "c" "abc"))) = true := by
  revert h
  revert b1 b2 b3
  decide +kernel
theorem lenRepl (b1 b2 b3 : Bool) : (fR b1 "c" "abc").length ≤ 6 ∧ (fR b2 "b" (fR b1 "c" "abc")).length ≤ 6 := by
  revert b1 b2 b3
  decide +kernel
theorem ixOk {x : Str} (h : okW x = true) (z : Int) : ∃ c, Code c ∧ atI x.cps.toList (z % 18 / (18 / (x.length : Int))) = some c ∧ 0 < (18 / (x.length : Int)) ∧ (18 / (x.length : Int)) < 1073741824 ∧ 0 < (x.length : Int) ∧ x.length ≤ 6 := by
  unfold okW at h
  rw [Bool.and_eq_true, List.all_eq_true] at h
  obtain ⟨h1, h2⟩ := h
  have z0 : 0 ≤ z % 18 := Int.emod_nonneg _ (by decide)
  have z1 : z % 18 < 18 := Int.emod_lt_of_pos _ (by decide)
  have fin : ∀ k : Nat, k < x.length → (z % 18 / (18 / (x.length : Int))) = (k : Nat) → ∃ c, Code c ∧ atI x.cps.toList (z % 18 / (18 / (x.length : Int))) = some c := fun k hk e => by
    have hk2 : k < x.cps.toList.length := by
      rw [Array.length_toList]
      exact hk
    refine ⟨x.cps.toList[k], of_decide_eq_true (h1 _ (List.getElem_mem hk2)), ?_⟩
    rw [e]
    exact atNat (List.getElem?_eq_getElem hk2)
  simp only [Bool.or_eq_true, decide_eq_true_eq] at h2
  rcases h2 with ((h2 | h2) | h2) | h2
  · obtain ⟨c, k1, k2⟩ := fin (z % 18 / 18).toNat (by omega) (by rw [h2]; omega)
    exact ⟨c, k1, k2, by rw [h2]; decide, by rw [h2]; decide, by rw [h2]; decide, by omega⟩
  · obtain ⟨c, k1, k2⟩ := fin (z % 18 / 9).toNat (by omega) (by rw [h2]; omega)
    exact ⟨c, k1, k2, by rw [h2]; decide, by rw [h2]; decide, by rw [h2]; decide, by omega⟩
  · obtain ⟨c, k1, k2⟩ := fin (z % 18 / 6).toNat (by omega) (by rw [h2]; omega)
    exact ⟨c, k1, k2, by rw [h2]; decide, by rw [h2]; decide, by rw [h2]; decide, by omega⟩
  · obtain ⟨c, k1, k2⟩ := fin (z % 18 / 3).toNat (by omega) (by rw [h2]; omega)
    exact ⟨c, k1, k2, by rw [h2]; decide, by rw [h2]; decide, by rw [h2]; decide, by omega⟩

section
variable {P : Program} {w : World} {K : PySem.W.Frag} {mg : Str → Option Value} {base : Heap}

def SpTri (K : PySem.W.Frag) : Sp := fun vs H Q _ => ∃ ns : List Int, DpAll K H vs [.list (ns.map .int)] ∧ ns.length ≤ 63 ∧
  ∀ n g p xs H', Tri n g → H p = none → Ex H H' → H' p = some (.lst xs) → DpAll K H' xs (triD n g) → Q (.ref p) H'
end

open PySem L2 Evl PyProof.Rows

def gA (r p : Nat) : Nat := if r = 0 ∧ p = 0 then 97 else if r = 0 ∧ p = 1 then 98 else 99
def gB (r p : Nat) : Nat := if r = 0 ∧ p = 0 then 98 else if r = 0 ∧ p = 1 then 97 else 99
theorem triA : Tri 2 gA := ⟨by decide, by decide, fun r p => by
  unfold gA Code
  split
  · exact .inl rfl
  · split
    · exact .inr (.inl rfl)
    · exact .inr (.inr rfl)⟩
theorem triB : Tri 2 gB := ⟨by decide, by decide, fun r p => by
  unfold gB Code
  split
  · exact .inr (.inl rfl)
  · split
    · exact .inl rfl
    · exact .inr (.inr rfl)⟩
theorem dA : [PyData.str "ab", .str "c"] = triD 2 gA := by
  have e : (("ab" : Str), ("c" : Str)) = (rowS 2 gA 0, rowS 2 gA 1) := by decide +kernel
  show [PyData.str "ab", .str "c"] = [.str (rowS 2 gA 0), .str (rowS 2 gA 1)]
  have e1 := congrArg Prod.fst e
  have e2 := congrArg Prod.snd e
  simp only at e1 e2
  rw [e1, e2]
theorem dB : [PyData.str "ba", .str "c"] = triD 2 gB := by
  have e : (("ba" : Str), ("c" : Str)) = (rowS 2 gB 0, rowS 2 gB 1) := by decide +kernel
  show [PyData.str "ba", .str "c"] = [.str (rowS 2 gB 0), .str (rowS 2 gB 1)]
  have e1 := congrArg Prod.fst e
  have e2 := congrArg Prod.snd e
  simp only at e1 e2
  rw [e1, e2]
theorem fA : fullsOf 2 gA = [(0, 0, 1)] := by decide +kernel
theorem aB : aroundOf (pairs (codes 2 gB)) = -1 := by decide +kernel

section
variable {P : Program} {w : World} {K : PySem.W.Frag} {mg : Str → Option Value} {base : Heap}

def SpLaw (K : PySem.W.Frag) : Sp := fun vs H Q _ => ∃ (a : Addr) (ns : List Int), vs = [.ref a] ∧ SqL K H a (ns.map V.int) ∧ ns.length ≤ 63 ∧ ∀ H', Q (.bl true) H'
end

end Dt

/-! Walks from door to door, in plain Lean. -/
namespace Dt

/-! paths of a partial map that goes back by another -/
section
variable {α : Type}
/-- l is the path of f from its first item on, to where f tells none -/
def IsPath (f : α → Option α) : List α → Prop
  | [] => False
  | [x] => f x = none
  | x :: y :: r => f x = some y ∧ IsPath f (y :: r)
theorem path_one {f : α → Option α} : ∀ {l m : List α}, IsPath f l → IsPath f m → l.head? = m.head? → l = m
  | [], _, h, _, _ => h.elim
  | _ :: _, [], _, h, _ => h.elim
  | [x], [y], _, _, e => by
    injection e with e
    rw [e]
  | [x], y :: z :: r, h1, h2, e => by
    injection e with e
    subst e
    have h1 : f x = none := h1
    rw [h2.1] at h1
    cases h1
  | x :: z :: r, [y], h1, h2, e => by
    injection e with e
    subst e
    have h2 : f x = none := h2
    rw [h1.1] at h2
    cases h2
  | x :: x2 :: r, y :: y2 :: s, h1, h2, e => by
    injection e with e
    subst e
    have e2 : x2 = y2 := Option.some.inj (h1.1.symm.trans h2.1)
    subst e2
    rw [path_one h1.2 h2.2 rfl]
/-- a chain of f that need not be at its end -/
def IsChain (f : α → Option α) : List α → Prop
  | [] => True
  | [_] => True
  | x :: y :: r => f x = some y ∧ IsChain f (y :: r)
theorem path_iff {f : α → Option α} : ∀ {l : List α}, IsPath f l ↔ IsChain f l ∧ ∃ x, l.getLast? = some x ∧ f x = none
  | [] => ⟨fun h => h.elim, fun ⟨_, x, h, _⟩ => by cases h⟩
  | [x] => ⟨fun h => ⟨True.intro, x, rfl, h⟩, fun ⟨_, y, h, hy⟩ => by
      injection h with h
      subst h
      exact hy⟩
  | x :: y :: r => by
    have ih := path_iff (f := f) (l := y :: r)
    rw [List.getLast?_cons_cons]
    exact ⟨fun h => ⟨⟨h.1, (ih.mp h.2).1⟩, (ih.mp h.2).2⟩, fun h => ⟨h.1.1, ih.mpr ⟨h.1.2, h.2⟩⟩⟩
theorem chain_app {f : α → Option α} : ∀ {l : List α} {x y : α}, IsChain f (l ++ [x]) → f x = some y → IsChain f (l ++ [x] ++ [y])
  | [], x, y, _, h => ⟨h, True.intro⟩
  | [a], x, y, h, h2 => ⟨h.1, h2, True.intro⟩
  | a :: b :: l, x, y, h, h2 => ⟨h.1, chain_app (l := b :: l) h.2 h2⟩
theorem chain_rev {f g : α → Option α} (back : ∀ x y, f x = some y → g y = some x) : ∀ {l : List α}, IsChain f l → IsChain g l.reverse
  | [], _ => True.intro
  | [_], _ => True.intro
  | x :: y :: r, h => by
    have ih := chain_rev back (l := y :: r) h.2
    rw [List.reverse_cons] at ih ⊢
    rw [List.reverse_cons]
    exact chain_app ih (back x y h.1)
/-- the way back -/
theorem path_rev {f g : α → Option α} (back : ∀ x y, f x = some y → g y = some x) {l : List α} {x : α} (h : IsPath f l) (hx : l.head? = some x) (gx : g x = none) : IsPath g l.reverse := by
  obtain ⟨h1, _⟩ := path_iff.mp h
  refine path_iff.mpr ⟨chain_rev back h1, x, ?_, gx⟩
  rw [List.getLast?_reverse, hx]
/-- what stands ahead of a later item -/
theorem chain_prev {f : α → Option α} : ∀ {m : List α} {j : Nat} {y : α}, IsChain f m → m[j + 1]? = some y → ∃ z, m[j]? = some z ∧ f z = some y
  | [], _, _, _, h => by simp at h
  | [_], _, _, _, h => by simp at h
  | c :: d :: m, 0, y, hc, h => by
    simp at h
    subst h
    exact ⟨c, rfl, hc.1⟩
  | c :: d :: m, j + 1, y, hc, h => by
    obtain ⟨z, h1, h2⟩ := chain_prev (m := d :: m) (j := j) hc.2 (by simpa using h)
    exact ⟨z, by simpa using h1, h2⟩
/-- nothing comes twice -/
theorem chain_nodup {f g : α → Option α} (back : ∀ x y, f x = some y → g y = some x) {l : List α} {x : α} (h : IsChain f (x :: l)) (gx : g x = none) : (x :: l).Nodup := by
  have same : ∀ (i j : Nat) (a : α), (x :: l)[i]? = some a → (x :: l)[j]? = some a → i < j → False := by
    intro i
    induction i with
    | zero =>
      intro j a hi hj hij
      obtain ⟨j, rfl⟩ : ∃ k, j = k + 1 := ⟨j - 1, by omega⟩
      obtain ⟨z, _, hz⟩ := chain_prev h hj
      have hi : some x = some a := hi
      cases hi
      rw [back z x hz] at gx
      cases gx
    | succ i ih =>
      intro j a hi hj hij
      obtain ⟨j, rfl⟩ : ∃ k, j = k + 1 := ⟨j - 1, by omega⟩
      obtain ⟨z, h1, hz⟩ := chain_prev h hi
      obtain ⟨z2, h2, hz2⟩ := chain_prev h hj
      have e : z = z2 := Option.some.inj ((back z a hz).symm.trans (back z2 a hz2))
      subst e
      exact ih j z h1 h2 (by omega)
  show List.Pairwise (· ≠ ·) (x :: l)
  rw [List.pairwise_iff_getElem]
  intro i j hi hj hij e
  exact same i j _ (List.getElem?_eq_getElem hi) (by rw [e]; exact List.getElem?_eq_getElem hj) hij
end
end Dt

/-! The grid: the edges of small triangles, what lies beyond them, the side. -/
namespace Dt

abbrev Sm := Nat × Nat × Nat
instance (n : Nat) (s : Sm) : Decidable (isSm n s) := inferInstanceAs (Decidable ((s.2.2 = 1 ∧ s.1 + s.2.1 + 1 < n) ∨ (s.2.2 = 0 ∧ s.1 + s.2.1 + 2 < n)))
/-- corner k, gone round to the left -/
def cor (s : Sm) (k : Nat) : Nat × Nat :=
  if s.2.2 = 1 then (if k = 0 then (s.1, s.2.1) else if k = 1 then (s.1, s.2.1 + 1) else (s.1 + 1, s.2.1))
  else (if k = 0 then (s.1, s.2.1 + 1) else if k = 1 then (s.1 + 1, s.2.1 + 1) else (s.1 + 1, s.2.1))
def nx3 (k : Nat) : Nat := if k = 0 then 1 else if k = 1 then 2 else 0
def at2 (g : Nat → Nat → Nat) (c : Nat × Nat) : Nat := g c.1 c.2
/-- edge k, from corner k to the next one: its sign -/
def ek (g : Nat → Nat → Nat) (s : Sm) (k : Nat) : Int := eg (at2 g (cor s k)) (at2 g (cor s (nx3 k)))
/-- what lies beyond edge k -/
def nb (n : Nat) (s : Sm) (k : Nat) : Option Sm :=
  if s.2.2 = 1 then (if k = 0 then (if s.1 = 0 then none else some (s.1 - 1, s.2.1, 0)) else if k = 1 then (if s.1 + s.2.1 + 2 < n then some (s.1, s.2.1, 0) else none) else (if s.2.1 = 0 then none else some (s.1, s.2.1 - 1, 0)))
  else (if k = 0 then some (s.1, s.2.1 + 1, 1) else if k = 1 then some (s.1 + 1, s.2.1, 1) else some (s.1, s.2.1, 1))
/-- the same edge, seen from there -/
def opk (s : Sm) (k : Nat) : Nat := if s.2.2 = 1 then (if k = 0 then 1 else if k = 1 then 2 else 0) else (if k = 0 then 2 else if k = 1 then 0 else 1)
theorem k3 {k : Nat} (h : k < 3) : k = 0 ∨ k = 1 ∨ k = 2 := by omega
theorem trnEk (g : Nat → Nat → Nat) {n : Nat} {s : Sm} (h : isSm n s) : trn g s = ek g s 0 + ek g s 1 + ek g s 2 := by
  obtain ⟨r, p, u⟩ := s
  rcases h with ⟨hu, _⟩ | ⟨hu, _⟩
  · have hu : u = 1 := hu
    subst hu
    rfl
  · have hu : u = 0 := hu
    subst hu
    rfl
/-- over an edge and back -/
theorem nbBack (g : Nat → Nat → Nat) {n : Nat} {s t : Sm} {k : Nat} (hk : k < 3) (h : isSm n s) (e : nb n s k = some t) : isSm n t ∧ opk s k < 3 ∧ nb n t (opk s k) = some s ∧ cor t (opk s k) = cor s (nx3 k) ∧ cor t (nx3 (opk s k)) = cor s k := by
  obtain ⟨r, p, u⟩ := s
  rcases h with ⟨hu, h⟩ | ⟨hu, h⟩
  · have hu : u = 1 := hu
    subst hu
    have h : r + p + 1 < n := h
    rcases k3 hk with rfl | rfl | rfl
    · have e : (if r = 0 then none else some (r - 1, p, 0)) = some t := e
      by_cases h0 : r = 0
      · rw [if_pos h0] at e
        cases e
      · rw [if_neg h0] at e
        cases e
        obtain ⟨r, rfl⟩ : ∃ q, r = q + 1 := ⟨r - 1, by omega⟩
        refine ⟨.inr ⟨rfl, by show r + 1 - 1 + p + 2 < n; omega⟩, Nat.le_of_ble_eq_true rfl, ?_, ?_, ?_⟩
        · show some (r + 1 - 1 + 1, p, 1) = some (r + 1, p, 1)
          rw [Nat.add_sub_cancel]
        · show (r + 1 - 1 + 1, p + 1) = (r + 1, p + 1)
          rw [Nat.add_sub_cancel]
        · show (r + 1 - 1 + 1, p) = (r + 1, p)
          rw [Nat.add_sub_cancel]
    · have e : (if r + p + 2 < n then some (r, p, 0) else none) = some t := e
      by_cases h0 : r + p + 2 < n
      · rw [if_pos h0] at e
        cases e
        exact ⟨.inr ⟨rfl, h0⟩, Nat.le_of_ble_eq_true rfl, rfl, rfl, rfl⟩
      · rw [if_neg h0] at e
        cases e
    · have e : (if p = 0 then none else some (r, p - 1, 0)) = some t := e
      by_cases h0 : p = 0
      · rw [if_pos h0] at e
        cases e
      · rw [if_neg h0] at e
        cases e
        obtain ⟨p, rfl⟩ : ∃ q, p = q + 1 := ⟨p - 1, by omega⟩
        refine ⟨.inr ⟨rfl, by show r + (p + 1 - 1) + 2 < n; omega⟩, Nat.le_of_ble_eq_true rfl, ?_, ?_, ?_⟩
        · show some (r, p + 1 - 1 + 1, 1) = some (r, p + 1, 1)
          rw [Nat.add_sub_cancel]
        · show (r, p + 1 - 1 + 1) = (r, p + 1)
          rw [Nat.add_sub_cancel]
        · show (r + 1, p + 1 - 1 + 1) = (r + 1, p + 1)
          rw [Nat.add_sub_cancel]
  · have hu : u = 0 := hu
    subst hu
    have h : r + p + 2 < n := h
    rcases k3 hk with rfl | rfl | rfl
    · have e : some (r, p + 1, 1) = some t := e
      cases e
      refine ⟨.inl ⟨rfl, by show r + (p + 1) + 1 < n; omega⟩, Nat.le_of_ble_eq_true rfl, ?_, rfl, rfl⟩
      show (if p + 1 = 0 then none else some (r, p + 1 - 1, 0)) = some (r, p, 0)
      rw [if_neg (Nat.succ_ne_zero p), Nat.add_sub_cancel]
    · have e : some (r + 1, p, 1) = some t := e
      cases e
      refine ⟨.inl ⟨rfl, by show r + 1 + p + 1 < n; omega⟩, Nat.le_of_ble_eq_true rfl, ?_, rfl, rfl⟩
      show (if r + 1 = 0 then none else some (r + 1 - 1, p, 0)) = some (r, p, 0)
      rw [if_neg (Nat.succ_ne_zero r), Nat.add_sub_cancel]
    · have e : some (r, p, 1) = some t := e
      cases e
      refine ⟨.inl ⟨rfl, by show r + p + 1 < n; omega⟩, Nat.le_of_ble_eq_true rfl, ?_, rfl, rfl⟩
      show (if r + p + 2 < n then some (r, p, 0) else none) = some (r, p, 0)
      rw [if_pos h]
theorem ekBack (g : Nat → Nat → Nat) {n : Nat} {s t : Sm} {k : Nat} (hk : k < 3) (h : isSm n s) (e : nb n s k = some t) : ek g t (opk s k) = - ek g s k := by
  obtain ⟨_, _, _, h1, h2⟩ := nbBack g hk h e
  unfold ek
  rw [h1, h2]
  exact eg_anti _ _
/-- two edges of one sign are one -/
theorem egOne {x y : Nat} (h : eg x y = 1) : x = 97 ∧ y = 98 := by
  unfold eg at h
  by_cases h1 : x = 97 ∧ y = 98
  · exact h1
  · rw [if_neg h1] at h
    split at h <;> cases h
theorem egNeg {x y : Nat} (h : eg x y = -1) : x = 98 ∧ y = 97 := by
  unfold eg at h
  by_cases h1 : x = 97 ∧ y = 98
  · rw [if_pos h1] at h
    cases h
  · rw [if_neg h1] at h
    by_cases h2 : x = 98 ∧ y = 97
    · exact h2
    · rw [if_neg h2] at h
      cases h
theorem egIs (x y : Nat) : eg x y = 1 ∨ eg x y = -1 ∨ eg x y = 0 := by
  unfold eg
  split
  · exact .inl rfl
  · split
    · exact .inr (.inl rfl)
    · exact .inr (.inr rfl)
def Sg (t : Int) : Prop := t = 1 ∨ t = -1
theorem Sg.neg {t : Int} (h : Sg t) : Sg (-t) := by
  rcases h with rfl | rfl
  · exact .inr rfl
  · exact .inl rfl
theorem ekOne (g : Nat → Nat → Nat) (s : Sm) {i j : Nat} {t : Int} (ht : Sg t) (hi : i < 3) (hj : j < 3) (a : ek g s i = t) (b : ek g s j = t) : i = j := by
  unfold ek at a b
  rcases ht with rfl | rfl
  · have a := egOne a
    have b := egOne b
    rcases k3 hi with rfl | rfl | rfl <;> rcases k3 hj with rfl | rfl | rfl <;> first
      | rfl
      | (exfalso
         have a1 := a.1
         have a2 := a.2
         have b1 := b.1
         have b2 := b.2
         simp only [nx3] at a2 b2
         simp at a2 b2
         omega)
  · have a := egNeg a
    have b := egNeg b
    rcases k3 hi with rfl | rfl | rfl <;> rcases k3 hj with rfl | rfl | rfl <;> first
      | rfl
      | (exfalso
         have a1 := a.1
         have a2 := a.2
         have b1 := b.1
         have b2 := b.2
         simp only [nx3] at a2 b2
         simp at a2 b2
         omega)
/-- the edge of sign t, if there is one -/
def ed (g : Nat → Nat → Nat) (t : Int) (s : Sm) : Option Nat := if ek g s 0 = t then some 0 else if ek g s 1 = t then some 1 else if ek g s 2 = t then some 2 else none
theorem edSome {g : Nat → Nat → Nat} {t : Int} {s : Sm} {k : Nat} (h : ed g t s = some k) : k < 3 ∧ ek g s k = t := by
  unfold ed at h
  split at h
  · cases h
    exact ⟨by decide, by assumption⟩
  · split at h
    · cases h
      exact ⟨by decide, by assumption⟩
    · split at h
      · cases h
        exact ⟨by decide, by assumption⟩
      · cases h
theorem edNone {g : Nat → Nat → Nat} {t : Int} {s : Sm} (h : ed g t s = none) : ∀ k, k < 3 → ek g s k ≠ t := by
  unfold ed at h
  split at h
  · cases h
  · split at h
    · cases h
    · split at h
      · cases h
      · intro k hk
        rcases k3 hk with rfl | rfl | rfl <;> assumption
theorem edIs2 {g : Nat → Nat → Nat} {t : Int} {s : Sm} {k : Nat} (ht : Sg t) (hk : k < 3) (h : ek g s k = t) : ed g t s = some k := by
  cases e : ed g t s with
  | none => exact absurd h (edNone e k hk)
  | some j =>
    obtain ⟨h1, h2⟩ := edSome e
    rw [ekOne g s ht h1 hk h2 h]
/-- one step of the walk that comes in over edges of sign t -/
def stp (n : Nat) (g : Nat → Nat → Nat) (t : Int) (s : Sm) : Option Sm := if isSm n s then (ed g (-t) s).bind (nb n s) else none
theorem stpSm {n : Nat} {g : Nat → Nat → Nat} {t : Int} {s u : Sm} (h : stp n g t s = some u) : isSm n s ∧ ∃ k, k < 3 ∧ ek g s k = -t ∧ nb n s k = some u := by
  unfold stp at h
  by_cases hs : isSm n s
  · rw [if_pos hs] at h
    cases e : ed g (-t) s with
    | none =>
      rw [e] at h
      cases h
    | some k =>
      rw [e] at h
      obtain ⟨h1, h2⟩ := edSome e
      exact ⟨hs, k, h1, h2, h⟩
  · rw [if_neg hs] at h
    cases h
theorem stpBack {n : Nat} {g : Nat → Nat → Nat} {t : Int} (ht : Sg t) : ∀ s u, stp n g t s = some u → stp n g (-t) u = some s := by
  intro s u h
  obtain ⟨hs, k, hk, he, hn⟩ := stpSm h
  obtain ⟨hu, hk2, hn2, _, _⟩ := nbBack g hk hs hn
  have e2 := ekBack g hk hs hn
  rw [he, Int.neg_neg] at e2
  unfold stp
  rw [if_pos hu, Int.neg_neg, edIs2 ht hk2 e2]
  exact hn2
/-! the side's steps as edges -/
def sideE (n i : Nat) : Sm × Nat := if i < n - 1 then ((0, i, 1), 0) else if i < (n - 1) + (n - 1) then ((i - (n - 1), (n - 1) + (n - 1) - 1 - i, 1), 1) else (((n - 1) + (n - 1) + (n - 1) - 1 - i, 0, 1), 2)
def sideI (n : Nat) (s : Sm) (k : Nat) : Nat := if k = 0 then s.2.1 else if k = 1 then (n - 1) + s.1 else (n - 1) + (n - 1) + (n - 1) - 1 - s.1
theorem sideE_ok {n i : Nat} (h2 : 2 ≤ n) (h : i < (n - 1) + (n - 1) + (n - 1)) (g : Nat → Nat → Nat) : isSm n (sideE n i).1 ∧ (sideE n i).2 < 3 ∧ nb n (sideE n i).1 (sideE n i).2 = none ∧ sideI n (sideE n i).1 (sideE n i).2 = i ∧
    at2 g (cor (sideE n i).1 (sideE n i).2) = cyc n g i ∧ at2 g (cor (sideE n i).1 (nx3 (sideE n i).2)) = cyc n g (i + 1) := by
  unfold sideE
  by_cases h0 : i < n - 1
  · rw [if_pos h0]
    refine ⟨.inl ⟨rfl, by show 0 + i + 1 < n; omega⟩, Nat.le_of_ble_eq_true rfl, rfl, rfl, ?_, ?_⟩
    · show g 0 i = cyc n g i
      unfold cyc
      rw [if_pos (by omega)]
    · show g 0 (i + 1) = cyc n g (i + 1)
      unfold cyc
      rw [if_pos (by omega)]
  · rw [if_neg h0]
    by_cases h1 : i < (n - 1) + (n - 1)
    · rw [if_pos h1]
      refine ⟨.inl ⟨rfl, by show i - (n - 1) + ((n - 1) + (n - 1) - 1 - i) + 1 < n; omega⟩, Nat.le_of_ble_eq_true rfl, ?_, ?_, ?_, ?_⟩
      · show (if i - (n - 1) + ((n - 1) + (n - 1) - 1 - i) + 2 < n then _ else none) = none
        rw [if_neg (by omega)]
      · show (n - 1) + (i - (n - 1)) = i
        omega
      · show g (i - (n - 1)) ((n - 1) + (n - 1) - 1 - i + 1) = cyc n g i
        unfold cyc
        by_cases hz : i = n - 1
        · rw [if_pos (by omega), show i - (n - 1) = 0 by omega, show (n - 1) + (n - 1) - 1 - i + 1 = i by omega]
        · rw [if_neg (by omega), if_pos (by omega), show (n - 1) + (n - 1) - 1 - i + 1 = (n - 1) + (n - 1) - i by omega]
      · show g (i - (n - 1) + 1) ((n - 1) + (n - 1) - 1 - i) = cyc n g (i + 1)
        unfold cyc
        rw [if_neg (by omega), if_pos (by omega), show i - (n - 1) + 1 = i + 1 - (n - 1) by omega, show (n - 1) + (n - 1) - 1 - i = (n - 1) + (n - 1) - (i + 1) by omega]
    · rw [if_neg h1]
      refine ⟨.inl ⟨rfl, by show (n - 1) + (n - 1) + (n - 1) - 1 - i + 0 + 1 < n; omega⟩, Nat.le_of_ble_eq_true rfl, rfl, ?_, ?_, ?_⟩
      · show (n - 1) + (n - 1) + (n - 1) - 1 - ((n - 1) + (n - 1) + (n - 1) - 1 - i) = i
        omega
      · show g ((n - 1) + (n - 1) + (n - 1) - 1 - i + 1) 0 = cyc n g i
        unfold cyc
        by_cases hz : i = (n - 1) + (n - 1)
        · rw [if_neg (by omega), if_pos (by omega), show (n - 1) + (n - 1) + (n - 1) - 1 - i + 1 = i - (n - 1) by omega, show (n - 1) + (n - 1) - i = 0 by omega]
        · rw [if_neg (by omega), if_neg (by omega), show (n - 1) + (n - 1) + (n - 1) - 1 - i + 1 = (n - 1) + (n - 1) + (n - 1) - i by omega]
      · show g ((n - 1) + (n - 1) + (n - 1) - 1 - i) 0 = cyc n g (i + 1)
        unfold cyc
        rw [if_neg (by omega), if_neg (by omega), show (n - 1) + (n - 1) + (n - 1) - 1 - i = (n - 1) + (n - 1) + (n - 1) - (i + 1) by omega]
theorem sideI_ok {n : Nat} {s : Sm} {k : Nat} (hk : k < 3) (h : isSm n s) (e : nb n s k = none) : sideI n s k < (n - 1) + (n - 1) + (n - 1) ∧ sideE n (sideI n s k) = (s, k) := by
  obtain ⟨r, p, u⟩ := s
  rcases h with ⟨hu, h⟩ | ⟨hu, h⟩
  · have hu : u = 1 := hu
    subst hu
    have h : r + p + 1 < n := h
    rcases k3 hk with rfl | rfl | rfl
    · have e : (if r = 0 then none else some (r - 1, p, 0)) = (none : Option Sm) := e
      by_cases h0 : r = 0
      · subst h0
        refine ⟨by show p < _; omega, ?_⟩
        show sideE n p = _
        unfold sideE
        rw [if_pos (by omega)]
      · rw [if_neg h0] at e
        cases e
    · have e : (if r + p + 2 < n then some (r, p, 0) else none) = (none : Option Sm) := e
      by_cases h0 : r + p + 2 < n
      · rw [if_pos h0] at e
        cases e
      · refine ⟨by show n - 1 + r < _; omega, ?_⟩
        show sideE n (n - 1 + r) = _
        unfold sideE
        rw [if_neg (by omega), if_pos (by omega), show n - 1 + r - (n - 1) = r by omega, show n - 1 + (n - 1) - 1 - (n - 1 + r) = p by omega]
    · have e : (if p = 0 then none else some (r, p - 1, 0)) = (none : Option Sm) := e
      by_cases h0 : p = 0
      · subst h0
        refine ⟨by show (n - 1) + (n - 1) + (n - 1) - 1 - r < _; omega, ?_⟩
        show sideE n ((n - 1) + (n - 1) + (n - 1) - 1 - r) = _
        unfold sideE
        rw [if_neg (by omega), if_neg (by omega), show (n - 1) + (n - 1) + (n - 1) - 1 - ((n - 1) + (n - 1) + (n - 1) - 1 - r) = r by omega]
      · rw [if_neg h0] at e
        cases e
  · have hu : u = 0 := hu
    subst hu
    rcases k3 hk with rfl | rfl | rfl <;> (exfalso; cases e)
end Dt

/-! Where the rule is kept some small triangle is full; whole ways, and back. -/
namespace Dt

/-! the rule -/
structure Keeps (n : Nat) (g : Nat → Nat → Nat) : Prop where
  low : ∀ p, p < n → g 0 p ≠ 99
  left : ∀ r, r < n → g r 0 ≠ 98
  right : ∀ r, r < n → g r (n - 1 - r) ≠ 97
theorem alongAB {n : Nat} {g : Nat → Nat → Nat} (tri : Tri n g) (k : Keeps n g) : ∀ m, m < n → along g 0 m = (if g 0 m = 98 then 1 else 0) - (if g 0 0 = 98 then 1 else 0)
  | 0, _ => by
    show (0 : Int) = _
    omega
  | m + 1, h => by
    rw [along_succ, alongAB tri k m (by omega)]
    have c1 := tri.ok 0 m
    have c2 := tri.ok 0 (m + 1)
    have k1 := k.low m (by omega)
    have k2 := k.low (m + 1) h
    unfold Code at c1 c2
    unfold eg
    rcases c1 with e1 | e1 | e1 <;> rcases c2 with e2 | e2 | e2 <;> simp [e1, e2] at k1 k2 ⊢ <;> omega
theorem sumZero {α : Type} (f : α → Int) : ∀ l : List α, (∀ x ∈ l, f x = 0) → (l.map f).sum = 0
  | [], _ => rfl
  | x :: l, h => by
    rw [List.map_cons, List.sum_cons, h x List.mem_cons_self, sumZero f l fun y hy => h y (List.mem_cons_of_mem _ hy)]
    rfl
theorem sperner {n : Nat} {g : Nat → Nat → Nat} (tri : Tri n g) (k : Keeps n g) : ∃ s ∈ smAll n, trn g s ≠ 0 := by
  have lo := tri.lo
  have t := turnsSide n g
  have r0 : rightUp n g (n - 1) = 0 := sumZero _ _ fun r hr => by
    rw [List.mem_range] at hr
    have a := k.right r (by omega)
    have b := k.right (r + 1) (by omega)
    unfold eg
    rw [if_neg (fun z => a z.1), if_neg (fun z => b z.2)]
  have l0 : leftDown g (n - 1) = 0 := sumZero _ _ fun r hr => by
    rw [List.mem_range] at hr
    have a := k.left r (by omega)
    have b := k.left (r + 1) (by omega)
    unfold eg
    rw [if_neg (fun z => a z.2), if_neg (fun z => b z.1)]
  have a1 := alongAB tri k (n - 1) (by omega)
  have e0 : g 0 0 ≠ 98 := k.left 0 (by omega)
  have e1 : g 0 (n - 1) = 98 := by
    have c := tri.ok 0 (n - 1)
    have k1 := k.low (n - 1) (by omega)
    have k2 := k.right 0 (by omega)
    rw [Nat.sub_zero] at k2
    rcases c with c | c | c
    · exact absurd c k2
    · exact c
    · exact absurd c k1
  rw [if_pos e1, if_neg e0] at a1
  have one : smSum g (smAll n) = 1 := by omega
  by_cases h : ∃ s ∈ smAll n, trn g s ≠ 0
  · exact h
  · exfalso
    have z : smSum g (smAll n) = 0 := sumZero _ _ fun s hs => by
      cases Int.decEq (trn g s) 0 with
      | isTrue e => exact e
      | isFalse e => exact absurd ⟨s, hs, e⟩ h
    omega
theorem smIn {n : Nat} {s : Sm} (h : isSm n s) : s ∈ smAll n := by
  obtain ⟨r, p, u⟩ := s
  unfold smAll smRow
  rw [List.mem_flatMap]
  rcases h with ⟨hu, h⟩ | ⟨hu, h⟩
  · have hu : u = 1 := hu
    subst hu
    have h : r + p + 1 < n := h
    refine ⟨r, List.mem_range.mpr (by omega), List.mem_flatMap.mpr ⟨p, List.mem_range.mpr (by omega), ?_⟩⟩
    unfold smAt
    split <;> simp
  · have hu : u = 0 := hu
    subst hu
    have h : r + p + 2 < n := h
    refine ⟨r, List.mem_range.mpr (by omega), List.mem_flatMap.mpr ⟨p, List.mem_range.mpr (by omega), ?_⟩⟩
    unfold smAt
    rw [if_pos h]
    simp
/-! the turn by the doors -/
theorem turnEd {n : Nat} {g : Nat → Nat → Nat} {s : Sm} (h : isSm n s) : trn g s = (if (ed g 1 s).isSome then 1 else 0) - (if (ed g (-1) s).isSome then 1 else 0) := by
  rw [trnEk g h]
  have i0 := egIs (at2 g (cor s 0)) (at2 g (cor s (nx3 0)))
  have i1 := egIs (at2 g (cor s 1)) (at2 g (cor s (nx3 1)))
  have i2 := egIs (at2 g (cor s 2)) (at2 g (cor s (nx3 2)))
  have o01 : ∀ t, Sg t → ek g s 0 = t → ek g s 1 ≠ t := fun t ht a b => absurd (ekOne g s ht (by decide) (by decide) a b) (by decide)
  have o02 : ∀ t, Sg t → ek g s 0 = t → ek g s 2 ≠ t := fun t ht a b => absurd (ekOne g s ht (by decide) (by decide) a b) (by decide)
  have o12 : ∀ t, Sg t → ek g s 1 = t → ek g s 2 ≠ t := fun t ht a b => absurd (ekOne g s ht (by decide) (by decide) a b) (by decide)
  have a1 := o01 1 (.inl rfl)
  have a2 := o02 1 (.inl rfl)
  have a3 := o12 1 (.inl rfl)
  have b1 := o01 (-1) (.inr rfl)
  have b2 := o02 (-1) (.inr rfl)
  have b3 := o12 (-1) (.inr rfl)
  have i0 : ek g s 0 = 1 ∨ ek g s 0 = -1 ∨ ek g s 0 = 0 := i0
  have i1 : ek g s 1 = 1 ∨ ek g s 1 = -1 ∨ ek g s 1 = 0 := i1
  have i2 : ek g s 2 = 1 ∨ ek g s 2 = -1 ∨ ek g s 2 = 0 := i2
  unfold ed
  rcases i0 with e0 | e0 | e0 <;> rcases i1 with e1 | e1 | e1 <;> rcases i2 with e2 | e2 | e2 <;> simp [e0, e1, e2] at a1 a2 a3 b1 b2 b3 ⊢
theorem turnSome {n : Nat} {g : Nat → Nat → Nat} {s : Sm} {t : Int} (ht : Sg t) (h : isSm n s) : trn g s = t ↔ (ed g t s).isSome = true ∧ ed g (-t) s = none := by
  rw [turnEd h]
  rcases ht with rfl | rfl
  · cases h1 : ed g 1 s <;> cases h2 : ed g (-1) s <;> simp
  · rw [show (- -1 : Int) = 1 from rfl]
    cases h1 : ed g 1 s <;> cases h2 : ed g (-1) s <;> simp
/-! ways -/
def outAt (n : Nat) (g : Nat → Nat → Nat) (t : Int) (x : Sm) : Option Nat := (ed g (-t) x).map (sideI n x)
/-- l is the whole way from s on that comes in by edges of sign t; e: where it goes out, if it does -/
structure Way (n : Nat) (g : Nat → Nat → Nat) (t : Int) (s : Sm) (l : List Sm) (e : Option Nat) : Prop where
  path : IsPath (stp n g t) l
  head : l.head? = some s
  all : ∀ x ∈ l, isSm n x
  last : ∃ x, l.getLast? = some x ∧ e = outAt n g t x
theorem way_one {n : Nat} {g : Nat → Nat → Nat} {t : Int} {s : Sm} {l m : List Sm} {e f : Option Nat} (a : Way n g t s l e) (b : Way n g t s m f) : l = m ∧ e = f := by
  have h := path_one a.path b.path (a.head.trans b.head.symm)
  subst h
  obtain ⟨x, h1, h2⟩ := a.last
  obtain ⟨y, h3, h4⟩ := b.last
  rw [h1] at h3
  cases h3
  exact ⟨rfl, h2.trans h4.symm⟩
theorem way_back {n : Nat} {g : Nat → Nat → Nat} {t : Int} (ht : Sg t) {s x : Sm} {l : List Sm} {e : Option Nat} (a : Way n g t s l e) (hs : stp n g (-t) s = none) (hx : l.getLast? = some x) : Way n g (-t) x l.reverse (outAt n g (-t) s) where
  path := path_rev (stpBack ht) a.path a.head hs
  head := by rw [List.head?_reverse, hx]
  all := fun y hy => a.all y (List.mem_reverse.mp hy)
  last := ⟨s, by rw [List.getLast?_reverse, a.head], rfl⟩
theorem nodupLe : ∀ (N : Nat) (l : List Nat), l.Nodup → (∀ x ∈ l, x < N) → l.length ≤ N
  | 0, l, _, h => by
    cases l with
    | nil => exact Nat.le_refl _
    | cons x l => exact absurd (h x List.mem_cons_self) (Nat.not_lt_zero _)
  | N + 1, l, hd, h => by
    have h1 := nodupLe N (l.erase N) (hd.erase N) fun x hx => by
      have h2 := (List.Nodup.mem_erase_iff hd).mp hx
      have h3 := h x h2.2
      have h4 := h2.1
      omega
    have h2 := List.length_erase (a := N) (l := l)
    split at h2 <;> omega
def code (n : Nat) (s : Sm) : Nat := (s.1 * n + s.2.1) * 2 + s.2.2
theorem codeLt {n : Nat} {s : Sm} (h : isSm n s) : code n s < n * n * 2 := by
  obtain ⟨r, p, u⟩ := s
  have hu : u ≤ 1 ∧ r < n ∧ p < n := by
    rcases h with ⟨hu, h⟩ | ⟨hu, h⟩
    · have hu : u = 1 := hu
      have h : r + p + 1 < n := h
      omega
    · have hu : u = 0 := hu
      have h : r + p + 2 < n := h
      omega
  have h1 : r * n + n ≤ n * n := by
    have := Nat.mul_le_mul_right n (show r + 1 ≤ n from hu.2.1)
    rw [Nat.add_mul, Nat.one_mul] at this
    exact this
  show (r * n + p) * 2 + u < n * n * 2
  omega
theorem codeInj {n : Nat} {s t : Sm} (hs : isSm n s) (ht : isSm n t) (e : code n s = code n t) : s = t := by
  obtain ⟨r, p, u⟩ := s
  obtain ⟨r', p', u'⟩ := t
  have b : ∀ {r p u : Nat}, isSm n (r, p, u) → u ≤ 1 ∧ p < n := fun {r p u} h => by
    rcases h with ⟨hu, h⟩ | ⟨hu, h⟩
    · have hu : u = 1 := hu
      have h : r + p + 1 < n := h
      omega
    · have hu : u = 0 := hu
      have h : r + p + 2 < n := h
      omega
  have b1 := b hs
  have b2 := b ht
  have e : (r * n + p) * 2 + u = (r' * n + p') * 2 + u' := e
  have e1 : u = u' := by omega
  have e2 : r * n + p = r' * n + p' := by omega
  have e3 : p = p' := by
    have h1 : (r * n + p) % n = p := by rw [Nat.mul_comm, Nat.mul_add_mod, Nat.mod_eq_of_lt b1.2]
    have h2 : (r' * n + p') % n = p' := by rw [Nat.mul_comm, Nat.mul_add_mod, Nat.mod_eq_of_lt b2.2]
    rw [← h1, ← h2, e2]
  have e4 : r = r' := by
    have h1 : r * n = r' * n := by omega
    exact Nat.eq_of_mul_eq_mul_right (by omega) h1
  rw [e1, e3, e4]
theorem smLenLe {n : Nat} {l : List Sm} (hd : l.Nodup) (h : ∀ x ∈ l, isSm n x) : l.length ≤ n * n * 2 := by
  have h1 := nodupLe (n * n * 2) (l.map (code n)) (by
    show List.Pairwise (· ≠ ·) (l.map (code n))
    rw [List.pairwise_map]
    refine List.Pairwise.imp_of_mem (fun {a b} ha hb hne => ?_) hd
    exact fun e => hne (codeInj (h a ha) (h b hb) e)) fun x hx => by
      obtain ⟨s, hs, rfl⟩ := List.mem_map.mp hx
      exact codeLt (h s hs)
  rw [List.length_map] at h1
  exact h1
/-- a chain that stays among the small triangles -/
theorem chainSm {n : Nat} {g : Nat → Nat → Nat} {t : Int} : ∀ {l : List Sm} {s : Sm}, isSm n s → IsChain (stp n g t) (s :: l) → ∀ x ∈ s :: l, isSm n x
  | [], s, h, _ => fun x hx => by
    rw [List.mem_singleton] at hx
    rw [hx]
    exact h
  | y :: l, s, h, hc => fun x hx => by
    rcases List.mem_cons.mp hx with rfl | hx
    · exact h
    · obtain ⟨_, k, hk, _, hn⟩ := stpSm hc.1
      exact chainSm (nbBack g hk h hn).1 hc.2 x hx
theorem chainLen {n : Nat} {g : Nat → Nat → Nat} {t : Int} (ht : Sg t) {s : Sm} {l : List Sm} (h : isSm n s) (hs : stp n g (-t) s = none) (hc : IsChain (stp n g t) (s :: l)) : (s :: l).length ≤ n * n * 2 :=
  smLenLe (chain_nodup (stpBack ht) hc hs) (chainSm h hc)
/-- from a start there is a whole way -/
theorem way_ex {n : Nat} {g : Nat → Nat → Nat} {t : Int} (ht : Sg t) {s : Sm} (h : isSm n s) (hs : stp n g (-t) s = none) : ∃ l e, Way n g t s l e := by
  have grow : ∀ k, (∃ l, IsPath (stp n g t) l ∧ l.head? = some s) ∨ ∃ l, IsChain (stp n g t) (s :: l) ∧ l.length = k := fun k => by
    induction k with
    | zero => exact .inr ⟨[], True.intro, rfl⟩
    | succ k ih =>
      rcases ih with ih | ⟨l, hl, hk⟩
      · exact .inl ih
      · obtain ⟨x, hx⟩ : ∃ x, (s :: l).getLast? = some x := ⟨_, List.getLast?_eq_some_getLast (List.cons_ne_nil s l)⟩
        cases e : stp n g t x with
        | none => exact .inl ⟨s :: l, path_iff.mpr ⟨hl, x, hx, e⟩, rfl⟩
        | some y =>
          refine .inr ⟨l ++ [y], ?_, by rw [List.length_append, hk]; rfl⟩
          obtain ⟨m, hm⟩ := List.getLast?_eq_some_iff.mp hx
          have z : s :: (l ++ [y]) = m ++ [x] ++ [y] := by
            rw [← hm]
            rfl
          rw [z]
          rw [hm] at hl
          exact chain_app hl e
  rcases grow (n * n * 2) with ⟨l, h1, h2⟩ | ⟨l, h1, h2⟩
  · obtain ⟨h3, x, h4, h5⟩ := path_iff.mp h1
    obtain ⟨r, rfl⟩ : ∃ r, l = s :: r := by
      cases l with
      | nil => cases h2
      | cons a r =>
        cases h2
        exact ⟨r, rfl⟩
    exact ⟨_, _, h1, h2, chainSm h h3, x, h4, rfl⟩
  · have h3 := chainLen ht h hs h1
    rw [List.length_cons] at h3
    omega
end Dt

/-! Objects of the program's own classes, by what their fields hold. -/
namespace Dt
open PySem L2 Evl PyProof.Rows

structure OwnC (K : PySem.W.Frag) (C : Addr) : Prop where
  cl : Cls K C
  ha : PySem.W.findIn K (.ref C) "__class__" = some (some (.builtin "object.__class__"))
  hn : PySem.W.specialIn K (.builtin "object.__class__") "__get__" = some (some (.builtin "getset_descriptor.__get__"))
  tk : PySem.W.takesIn K (.builtin "object.__class__") = some true
  hm : PySem.W.mroIn K C (.type "object") = some true
section
variable {X : Cx}
/-- two readings of one expression: either will do -/
theorem pe_orR {e : Expr} {t1 t2 : TE} (h1 : PE X e t1) (h2 : PE X e t2) : PE X e (fun σ H Q => t1 σ H Q ∨ t2 σ H Q) := ⟨fun pins s σ H Q I h => h.elim (h1.run pins s σ H Q I) (h2.run pins s σ H Q I)⟩
def rIsNon : R2 := fun x y H Q => y = .non ∧ Q (.bl (decide (x = .non))) H
def rNotNon : R2 := fun x y H Q => y = .non ∧ Q (.bl (!decide (x = .non))) H
theorem op_isNR : OpR X (compareOp .Is) rIsNon := op_isN
theorem op_notNR : OpR X (compareOp .IsNot) rNotNon := op_notN
end
def isNn : PyData → Bool
  | .none => true
  | _ => false
section
variable {K : PySem.W.Frag} {σ : L2.St} {H H' : Hp} {ta tb te tx : TE} {t u : TT} {d e : PyData} {D : Ends} {tz : TS}
theorem nnIs {v : V} (h : Dp K H v d) : decide (v = V.non) = isNn d := by cases h <;> rfl
theorem edIsNon (h : EvD K te σ H d) : EvD K (tOp rIsNon te (tC .non)) σ H (.bool (isNn d)) := edB fun H1 a Q q => h H1 a _ fun v H2 b hv => ⟨rfl, by rw [nnIs hv]; exact q H2 b⟩
theorem edNotNon (h : EvD K te σ H d) : EvD K (tOp rNotNon te (tC .non)) σ H (.bool (!isNn d)) := edB fun H1 a Q q => h H1 a _ fun v H2 b hv => ⟨rfl, by rw [nnIs hv]; exact q H2 b⟩
theorem edInD {ds : List PyData} (ha : EvD K ta σ H d) (hb : EvD K tb σ H (.list ds)) (sd : SeqAt.shaped d = true) (se : SeqAt.shaped (.list ds) = true) : EvD K (tOp (rInD K) ta tb) σ H (.bool (ds.any fun z => PyData.eqv z d)) := edB fun H1 a Q q =>
  ha H1 a _ fun x H2 b hx => hb H2 (a.trans b) _ fun y H3 c hy => ⟨d, ds, dpUp c hx, hy, sd, se, q H3 (b.trans c)⟩
theorem edNotInD {ds : List PyData} (ha : EvD K ta σ H d) (hb : EvD K tb σ H (.list ds)) (sd : SeqAt.shaped d = true) (se : SeqAt.shaped (.list ds) = true) : EvD K (tOp (rNotInD K) ta tb) σ H (.bool (!ds.any fun z => PyData.eqv z d)) := edB fun H1 a Q q =>
  ha H1 a _ fun x H2 b hx => hb H2 (a.trans b) _ fun y H3 c hy => ⟨d, ds, dpUp c hx, hy, sd, se, q H3 (b.trans c)⟩
/-- a field -/
theorem edFld {x C dx : Addr} {fs : List (Str × V)} {f : Str} {v : V} (h : Ev te σ H (.ref x)) (hx : H x = some (.ins C dx fs)) (cl : Cls K C) (na : NoAttr K C f) (hl : fs.lookup f = some v) (hd : Dp K H v d) : EvD K (tFld K te f) σ H d := fun H1 a Q q =>
  h H1 a _ fun H2 b => ⟨x, C, dx, fs, v, rfl, b _ _ (a _ _ hx), cl, na, hl, q v H2 b (dpUp (a.trans b) hd)⟩
/-- isinstance of an object: one class -/
theorem edIsiO {x C D0 dx : Addr} {fs : List (Str × V)} {b : Bool} (h : Ev te σ H (.ref x)) (hx : H x = some (.ins C dx fs)) (o : OwnC K C) (hk : PySem.W.kitOne K (.ref C) (.ref D0) = some b) : EvD K (tCB (rIsi K) (tCons te (tCons (tC (.ref D0)) tNil))) σ H (.bool b) := edB fun H1 a Q q =>
  h H1 a _ fun H2 c => ⟨.ref x, .ref D0, _, _, b, rfl, .own D0, .base (.ins (c _ _ (a _ _ hx)) o.cl o.ha o.hn o.tk o.hm), hk, q H2 c⟩
theorem edIsiO2 {x C D0 D1 dx : Addr} {fs : List (Str × V)} {b : Bool} (h : Ev te σ H (.ref x)) (hx : H x = some (.ins C dx fs)) (o : OwnC K C) (hk : PySem.W.kitAny K (.ref C) [.ref D0, .ref D1] = some b) : EvD K (tCB (rIsiT K) (tCons te (tCons (tTup (tCons (tC (.ref D0)) (tCons (tC (.ref D1)) tNil))) tNil))) σ H (.bool b) := edB fun H1 a Q q =>
  h H1 a _ fun H2 c => ⟨by show 2 ≤ sizeLine; decide, fun p hp => ⟨.ref x, p, [.ref D0, .ref D1], _, [.ref D0, .ref D1], b, rfl, upd_same, .cons (.own D0) (.cons (.own D1) .nil), .base (.ins (Ex.new hp _ _ (c _ _ (a _ _ hx))) o.cl o.ha o.hn o.tk o.hm), hk, q _ (c.trans (Ex.new hp))⟩⟩
theorem edIf {b : Bool} (h : EvT t σ H b) (h1 : b = true → EvD K ta σ H d) (h2 : b = false → EvD K tb σ H d) : EvD K (tIf t ta tb) σ H d := fun H1 a Q q => h H1 a _ fun H2 c => by
  cases b with
  | true => exact h1 rfl H2 (a.trans c) _ fun v H3 k hv => q v H3 (c.trans k) hv
  | false => exact h2 rfl H2 (a.trans c) _ fun v H3 k hv => q v H3 (c.trans k) hv
theorem edOr {a b : Bool} (h1 : EvD K ta σ H (.bool a)) (h2 : a = false → EvD K tb σ H (.bool b)) : EvD K (tOrV ta tb) σ H (.bool (a || b)) := edB (ev_orV (evB h1) fun h => evB (h2 h))
theorem qIf {b : Bool} {tu : TS} (h : EvT t σ H b) (h1 : b = true → ∀ H1, Ex H H1 → tu { D with nx := tz D } σ H1) (h2 : b = false → ∀ H1, Ex H H1 → tz D σ H1) : tSeq (tIfS t tu tNext) tz D σ H := q_when h h1 h2
end

/-! what is told -/
inductive Ans where
  | full (r p u : Int)
  | breaks (r p : Int)
  | ended (l : List PyData)
  | out (l : List PyData) (d : Int)
structure Kls where
  full : Addr
  breaks : Addr
  ended : Addr
  out : Addr
/-- a new list of ds at q -/
def NwL (K : PySem.W.Frag) (H0 H : Hp) (q : Addr) (ds : List PyData) : Prop := H0 q = none ∧ ∃ xs, H q = some (.lst xs) ∧ DpAll K H xs ds
def AnsN (c : Kls) (K : PySem.W.Frag) (H0 H : Hp) (x : Addr) : Ans → Prop
  | .full r p u => ∃ dx, H x = some (.ins c.full dx [("row", .int r), ("place", .int p), ("up", .int u)])
  | .breaks r p => ∃ dx, H x = some (.ins c.breaks dx [("row", .int r), ("place", .int p)])
  | .ended l => ∃ dx q, H x = some (.ins c.ended dx [("smalls", .ref q)]) ∧ NwL K H0 H q l
  | .out l d => ∃ dx q, H x = some (.ins c.out dx [("smalls", .ref q), ("door", .int d)]) ∧ NwL K H0 H q l
theorem NwL.up {K : PySem.W.Frag} {H0 H H' : Hp} {q : Addr} {ds : List PyData} (h : NwL K H0 H q ds) (e : Ex H H') : NwL K H0 H' q ds := by
  obtain ⟨h1, xs, h2, h3⟩ := h
  exact ⟨h1, xs, e _ _ h2, dpsUp e h3⟩
theorem NwL.dp {K : PySem.W.Frag} {H0 H : Hp} {q : Addr} {ds : List PyData} (h : NwL K H0 H q ds) : Dp K H (.ref q) (.list ds) := by
  obtain ⟨_, xs, h2, h3⟩ := h
  exact dpOfL h2 h3
theorem AnsN.up {c : Kls} {K : PySem.W.Frag} {H0 H H' : Hp} {x : Addr} {a : Ans} (h : AnsN c K H0 H x a) (e : Ex H H') : AnsN c K H0 H' x a := by
  cases a with
  | full r p u => obtain ⟨dx, h⟩ := h; exact ⟨dx, e _ _ h⟩
  | breaks r p => obtain ⟨dx, h⟩ := h; exact ⟨dx, e _ _ h⟩
  | ended l => obtain ⟨dx, q, h, k⟩ := h; exact ⟨dx, q, e _ _ h, k.up e⟩
  | out l d => obtain ⟨dx, q, h, k⟩ := h; exact ⟨dx, q, e _ _ h, k.up e⟩
theorem AnsN.back {c : Kls} {K : PySem.W.Frag} {H0 H1 H : Hp} {x : Addr} {a : Ans} (e : Ex H0 H1) (h : AnsN c K H1 H x a) : AnsN c K H0 H x a := by
  cases a with
  | full r p u => exact h
  | breaks r p => exact h
  | ended l => obtain ⟨dx, q, h, k⟩ := h; exact ⟨dx, q, h, fresh_back e k.1, k.2⟩
  | out l d => obtain ⟨dx, q, h, k⟩ := h; exact ⟨dx, q, h, fresh_back e k.1, k.2⟩
/-- it tells what it holds -/
def EvAn (c : Kls) (K : PySem.W.Frag) (te : TE) (σ : L2.St) (H : Hp) (a : Ans) : Prop := ∀ H1, Ex H H1 → ∀ Q : VK, (∀ x H2, H1 x = none → Ex H1 H2 → AnsN c K H1 H2 x a → Q (.ref x) H2) → te σ H1 Q
def PrA (c : Kls) (K : PySem.W.Frag) (P : List PyData → Ans → Prop) : Sp := fun vs H Q _ => ∃ ds a, DpAll K H vs ds ∧ P ds a ∧ ∀ x H', H x = none → Ex H H' → AnsN c K H H' x a → Q (.ref x) H'
section
variable {c : Kls} {K : PySem.W.Frag} {σ : L2.St} {H H' : Hp} {te : TE} {a : Ans} {D : Ends} {tz : TS}
theorem praLen {P : List PyData → Ans → Prop} {n : Nat} (hP : ∀ ds d, P ds d → ds.length = n) : ∀ vs H Q E, PrA c K P vs H Q E → vs.length = n := fun vs H Q E ⟨ds, d, h, p, _⟩ => (dpsLen h).trans (hP ds d p)
theorem eaCall {P : List PyData → Ans → Prop} {E : XK} {ta : TA} {ds : List PyData} (h : EvAD K ta σ H ds) (hp : P ds a) : EvAn c K (tCall (PrA c K P) [] E ta) σ H a := fun H1 e Q q =>
  h H1 e _ fun vs H2 b hd => ⟨ds, a, by rw [List.append_nil]; exact hd, hp, fun x H3 h1 k h2 => q x H3 (fresh_back b h1) (b.trans k) (h2.back b)⟩
theorem qAsgA {i : Nat} (h : EvAn c K te σ H a) (k : ∀ x H1, H x = none → Ex H H1 → AnsN c K H H1 x a → tz D (σ.set i (some (.ref x))) H1) : tSeq (tAsg te (gName i)) tz D σ H := h H (Ex.refl H) _ fun x H1 h1 e h2 => k x H1 h1 e h2
theorem sRetA (h : EvAn c K te σ H a) (k : ∀ x H1, H x = none → Ex H H1 → AnsN c K H H1 x a → D.rt (.ref x) H1) : tRet te D σ H := h H (Ex.refl H) _ fun x H1 h1 e h2 => k x H1 h1 e h2
theorem EvAn.upE (e : Ex H H') (h : EvAn c K te σ H a) : EvAn c K te σ H' a := fun H1 b Q q => h H1 (e.trans b) Q q
end
/-! names of fields -/
theorem nPR : (("place" : Str) == "row") = false := by decide +kernel
theorem nUR : (("up" : Str) == "row") = false := by decide +kernel
theorem nUP : (("up" : Str) == "place") = false := by decide +kernel
theorem nDS : (("door" : Str) == "smalls") = false := by decide +kernel
theorem lkHd {f : Str} {v : V} {r : List (Str × V)} : List.lookup f ((f, v) :: r) = some v := by simp [List.lookup]
theorem lkTl {f g : Str} {v : V} {r : List (Str × V)} (h : (f == g) = false) : List.lookup f ((g, v) :: r) = List.lookup f r := by simp [List.lookup, h]
theorem neStr {f g : Str} (h : (f == g) = false) : ¬ g = f := fun e => by
  subst e
  simp at h
theorem putTl {f g : Str} {v x : V} {r : List (Str × V)} (h : (f == g) = false) : putF f v ((g, x) :: r) = (g, x) :: putF f v r := if_neg (neStr h)
theorem putNil {f : Str} {v : V} : putF f v [] = [(f, v)] := rfl
/-! made by a class: what __init__ promises -/
def SpIni3 (C : Addr) : Sp := fun vs H Q _ => ∃ x dx a b d, vs = [.ref x, a, b, d] ∧ H x = some (.ins C dx []) ∧ Q .non (upd H x (.ins C dx [("row", a), ("place", b), ("up", d)]))
def SpIni2 (C : Addr) : Sp := fun vs H Q _ => ∃ x dx a b, vs = [.ref x, a, b] ∧ H x = some (.ins C dx []) ∧ Q .non (upd H x (.ins C dx [("row", a), ("place", b)]))
def SpIniE (K : PySem.W.Frag) (C : Addr) : Sp := fun vs H Q _ => ∃ x dx a xs, vs = [.ref x, .ref a] ∧ SqL K H a xs ∧ H x = some (.ins C dx []) ∧ ∀ p, H p = none → Q .non (upd (upd H p (.lst xs)) x (.ins C dx [("smalls", .ref p)]))
def SpIniO (K : PySem.W.Frag) (C : Addr) : Sp := fun vs H Q _ => ∃ x dx a xs d, vs = [.ref x, .ref a, d] ∧ SqL K H a xs ∧ H x = some (.ins C dx []) ∧ ∀ p, H p = none → Q .non (upd (upd H p (.lst xs)) x (.ins C dx [("smalls", .ref p), ("door", d)]))
section
variable {c : Kls} {K : PySem.W.Frag} {σ : L2.St} {H H' : Hp} {ta : TA} {E : XK}
theorem exMade {x dx C : Addr} (hx : H x = none) (hdx : H dx = none) {o : HO} : Ex H (upd (upd H dx (.own x)) x o) := (Ex.new hdx).mut hx
theorem exMade2 {x dx : Addr} {o1 o2 : HO} (hx : H x = none) (hdx : H dx = none) : Ex H (upd (upd (upd H dx (.own x)) x o1) x o2) := ((Ex.new hdx).mut hx).mut hx
theorem eaFull {r p u : Int} (h : EvAD K ta σ H [.int r, .int p, .int u]) : EvAn c K (tMake c.full (SpIni3 c.full) [] E ta) σ H (.full r p u) := fun H1 e Q q =>
  h H1 e _ fun vs H2 b hd => fun x dx hx hdx _ => by
    obtain ⟨v1, v2, v3, rfl, h1, h2, h3⟩ := dps3 hd
    rw [dpInt h1, dpInt h2, dpInt h3]
    exact ⟨x, dx, _, _, _, rfl, upd_same, rfl, q x _ (fresh_back b hx) (b.trans (exMade2 hx hdx)) ⟨dx, upd_same⟩⟩
theorem eaBreaks {r p : Int} (h : EvAD K ta σ H [.int r, .int p]) : EvAn c K (tMake c.breaks (SpIni2 c.breaks) [] E ta) σ H (.breaks r p) := fun H1 e Q q =>
  h H1 e _ fun vs H2 b hd => fun x dx hx hdx _ => by
    obtain ⟨v1, v2, rfl, h1, h2⟩ := dps2 hd
    rw [dpInt h1, dpInt h2]
    exact ⟨x, dx, _, _, rfl, upd_same, rfl, q x _ (fresh_back b hx) (b.trans (exMade2 hx hdx)) ⟨dx, upd_same⟩⟩
theorem eaEnded {l : List PyData} (hn : noLs l = true) (h : EvAD K ta σ H [.list l]) : EvAn c K (tMake c.ended (SpIniE K c.ended) [] E ta) σ H (.ended l) := fun H1 e Q q =>
  h H1 e _ fun vs H2 b hd => fun x dx hx hdx ne => by
    obtain ⟨v1, rfl, h1⟩ := dps1 hd
    obtain ⟨a, xs, rfl, hs, hr⟩ := dpLst h1
    have e2 : Ex H2 (upd (upd H2 dx (.own x)) x (.ins c.ended dx [])) := (Ex.new hdx).mut hx
    refine ⟨x, dx, a, xs, rfl, ex_l e2 hs, upd_same, fun p hp => ?_⟩
    have px : p ≠ x := fun z => by rw [z, upd_same] at hp; cases hp
    have p2 : H2 p = none := fresh_back e2 hp
    have e3 : Ex H2 (upd (upd (upd (upd H2 dx (.own x)) x (.ins c.ended dx [])) p (.lst xs)) x (.ins c.ended dx [("smalls", .ref p)])) := (e2.mut p2).mut hx
    exact ⟨rfl, q x _ (fresh_back b hx) (b.trans e3) ⟨dx, p, upd_same, fresh_back b p2, xs, by rw [upd_ne px, upd_same], dpsUp e3 hr⟩⟩
theorem eaOut {l : List PyData} {d : Int} (hn : noLs l = true) (h : EvAD K ta σ H [.list l, .int d]) : EvAn c K (tMake c.out (SpIniO K c.out) [] E ta) σ H (.out l d) := fun H1 e Q q =>
  h H1 e _ fun vs H2 b hd => fun x dx hx hdx ne => by
    obtain ⟨v1, v2, rfl, h1, h2⟩ := dps2 hd
    rw [dpInt h2]
    obtain ⟨a, xs, rfl, hs, hr⟩ := dpLst h1
    have e2 : Ex H2 (upd (upd H2 dx (.own x)) x (.ins c.out dx [])) := (Ex.new hdx).mut hx
    refine ⟨x, dx, a, xs, _, rfl, ex_l e2 hs, upd_same, fun p hp => ?_⟩
    have px : p ≠ x := fun z => by rw [z, upd_same] at hp; cases hp
    have p2 : H2 p = none := fresh_back e2 hp
    have e3 : Ex H2 (upd (upd (upd (upd H2 dx (.own x)) x (.ins c.out dx [])) p (.lst xs)) x (.ins c.out dx [("smalls", .ref p), ("door", .int d)])) := (e2.mut p2).mut hx
    exact ⟨rfl, q x _ (fresh_back b hx) (b.trans e3) ⟨dx, p, upd_same, fresh_back b p2, xs, by rw [upd_ne px, upd_same], dpsUp e3 hr⟩⟩
end
end Dt

/-! What each def of the program promises. -/
namespace Dt
open PySem L2 Evl PyProof.Rows

theorem eqvStr (a b : Str) : PyData.eqv (.str a) (.str b) = decide (a = b) := by
  unfold PyData.eqv
  rfl
theorem signIs {c k : Nat} {x : Str} (hx : x = ⟨#[k]⟩) : decide ((⟨#[c]⟩ : Str) = x) = decide (c = k) := by
  subst hx
  by_cases h : c = k
  · rw [h, decide_eq_true rfl, decide_eq_true rfl]
  · rw [decide_eq_false h]
    refine decide_eq_false fun z => h ?_
    have e := congrArg (fun s : Str => s.cps[0]?) z
    simpa using e
theorem isA : ("a" : Str) = ⟨#[97]⟩ := by decide +kernel
theorem isB : ("b" : Str) = ⟨#[98]⟩ := by decide +kernel
theorem isC : ("c" : Str) = ⟨#[99]⟩ := by decide +kernel
section
variable {K : PySem.W.Frag} {σ : L2.St} {H H' : Hp} {ta tb te : TE}
theorem strShaped {x : Str} (h : ∀ c ∈ x.cps.toList, Code c) : SeqAt.shaped (.str x) = true := shp (okS (l := x.cps.toList) h 0)
theorem signShaped {c : Nat} (h : Code c) : SeqAt.shaped (.str ⟨#[c]⟩) = true := strShaped (x := ⟨#[c]⟩) fun d hd => by
  have : d = c := by simpa using hd
  rw [this]
  exact h
/-- a letter == a written letter -/
theorem edEqC {c k : Nat} {x : Str} (hc : Code c) (hk : Code k) (hx : x = ⟨#[k]⟩) (ha : EvD K ta σ H (.str ⟨#[c]⟩)) (hb : EvD K tb σ H (.str x)) : EvD K (tOp (rEqD K) ta tb) σ H (.bool (decide (c = k))) := by
  refine edB (ev_is (evEq ha hb (signShaped hc) (by rw [hx]; exact signShaped hk)) ?_)
  rw [eqvStr, signIs hx]
end

def spZ (s : Int × Int) : PyData := .tuple [.int s.1, .int s.2]
def smZ (r p u : Int) : PyData := .tuple [.int r, .int p, .int u]
def spotB (n : Nat) (r p : Int) : Bool := decide (0 ≤ r ∧ 0 ≤ p ∧ r + p < (n : Int))
def smB (n : Nat) (r p u : Int) : Bool := decide ((u = 1 ∧ 0 ≤ r ∧ 0 ≤ p ∧ r + p + 1 < (n : Int)) ∨ (u = 0 ∧ 0 ≤ r ∧ 0 ≤ p ∧ r + p + 2 < (n : Int)))
def crnZ (r p u : Int) : List (Int × Int) := if u = 1 then [(r, p), (r, p + 1), (r + 1, p)] else [(r, p + 1), (r + 1, p + 1), (r + 1, p)]
theorem crnNat {r p u : Nat} : (crnZ r p u).map spZ = (crn r p u).map spD := by
  unfold crnZ crn
  by_cases h : u = 1
  · rw [if_pos (by omega), if_pos h]
    rfl
  · rw [if_neg (by omega), if_neg h]
    rfl
theorem crnAll {n : Nat} {r p u : Int} (hu : u = 0 ∨ u = 1) : (crnZ r p u).all (fun s => spotB n s.1 s.2) = smB n r p u := by
  unfold crnZ smB
  rcases hu with rfl | rfl
  · rw [if_neg (by decide)]
    simp only [List.all_cons, List.all_nil, Bool.and_true, spotB]
    rw [Bool.eq_iff_iff]
    simp only [Bool.and_eq_true, decide_eq_true_eq]
    exact ⟨fun h => .inr ⟨trivial, by omega⟩, fun h => by rcases h with ⟨h, _⟩ | ⟨_, h⟩ <;> omega⟩
  · rw [if_pos rfl]
    simp only [List.all_cons, List.all_nil, Bool.and_true, spotB]
    rw [Bool.eq_iff_iff]
    simp only [Bool.and_eq_true, decide_eq_true_eq]
    exact ⟨fun h => .inl ⟨trivial, by omega⟩, fun h => by rcases h with ⟨_, h⟩ | ⟨h, _⟩ <;> omega⟩
theorem smOfB {n : Nat} {r p u : Int} (h : smB n r p u = true) : ∃ r' p' u' : Nat, r = r' ∧ p = p' ∧ u = u' ∧ isSm n (r', p', u') := by
  have h := of_decide_eq_true h
  rcases h with ⟨h1, h2, h3, h4⟩ | ⟨h1, h2, h3, h4⟩
  · refine ⟨r.toNat, p.toNat, 1, by omega, by omega, by omega, .inl ⟨rfl, ?_⟩⟩
    show r.toNat + p.toNat + 1 < n
    omega
  · refine ⟨r.toNat, p.toNat, 0, by omega, by omega, by omega, .inr ⟨rfl, ?_⟩⟩
    show r.toNat + p.toNat + 2 < n
    omega
theorem smBOf {n r p u : Nat} (h : isSm n (r, p, u)) : smB n r p u = true := by
  refine decide_eq_true ?_
  rcases h with ⟨h1, h2⟩ | ⟨h1, h2⟩
  · have h1 : u = 1 := h1
    have h2 : r + p + 1 < n := h2
    exact .inl ⟨by omega, by omega, by omega, by omega⟩
  · have h1 : u = 0 := h1
    have h2 : r + p + 2 < n := h2
    exact .inr ⟨by omega, by omega, by omega, by omega⟩
/-- the rule broken at a spot -/
def brk (n : Nat) (g : Nat → Nat → Nat) (r p : Nat) : Bool := (decide (r = 0) && decide (g r p = 99)) || (decide (p = 0) && decide (g r p = 98)) || (decide (r + p + 1 = n) && decide (g r p = 97))
def brkB (n : Nat) (g : Nat → Nat → Nat) (r p : Int) : Bool := spotB n r p && brk n g r.toNat p.toNat
def fullB (n : Nat) (g : Nat → Nat → Nat) (r p u : Int) : Bool := smB n r p u && !decide (trn g (r.toNat, p.toNat, u.toNat) = 0)
def ltr (g : Nat → Nat → Nat) (l : List (Nat × Nat)) : List Nat := l.map fun s => g s.1 s.2
theorem ltrSigns (g : Nat → Nat → Nat) (l : List (Nat × Nat)) : (l.map fun s => PyData.str ⟨#[g s.1 s.2]⟩) = ((ltr g l).map fun c => (⟨#[c]⟩ : Str)).map PyData.str := by
  unfold ltr
  rw [List.map_map, List.map_map]
  rfl

theorem inUp (u : Int) : (if true then !inV (.int u) [.int 0, .int 1] else inV (.int u) [.int 0, .int 1]) = !decide (u = 0 ∨ u = 1) := by
  show (!(eqV (.int 0) (.int u) || (eqV (.int 1) (.int u) || false))) = _
  have e : ∀ a b : Int, eqV (.int a) (.int b) = decide (a = b) := fun a b => by
    unfold eqV
    by_cases h : a = b
    · simp [h]
    · simp [h]
  rw [e, e, Bool.or_false]
  congr 1
  rw [Bool.eq_iff_iff]
  simp only [Bool.or_eq_true, decide_eq_true_eq]
  omega
def Q_spot : List PyData → PyData → Prop := fun ds d => ∃ (n : Nat) (g : Nat → Nat → Nat) (r p : Int), Tri n g ∧ ds = [.list (triD n g), .int r, .int p] ∧ d = .bool (spotB n r p)
def Q_corners : List PyData → List PyData → Prop := fun ds es => ∃ r p u : Int, (u = 0 ∨ u = 1) ∧ ds = [smZ r p u] ∧ es = (crnZ r p u).map spZ
def Q_small : List PyData → PyData → Prop := fun ds d => ∃ (n : Nat) (g : Nat → Nat → Nat) (r p u : Int), Tri n g ∧ ds = [.list (triD n g), smZ r p u] ∧ d = .bool (smB n r p u)
def Q_letters_at : List PyData → PyData → Prop := fun ds d => ∃ n g l, Tri n g ∧ (∀ s ∈ l, s.1 + s.2 < n) ∧ l.length ≤ 10 ∧ (ds = [.list (triD n g), .list (l.map spD)] ∨ ds = [.list (triD n g), .tuple (l.map spD)]) ∧ d = .str (sOf (ltr g l))
def Q_breaks_rule : List PyData → PyData → Prop := fun ds d => ∃ n g r p, Tri n g ∧ r + p < n ∧ ds = [.list (triD n g), .int (r : Nat), .int (p : Nat)] ∧ d = .bool (brk n g r p)
/-! the steps of the side -/
def stD (s : (Nat × Nat) × Nat × Nat) : PyData := .tuple [spD s.1, spD s.2]
def rotP (l : List (Nat × Nat)) : List (Nat × Nat) := l.drop 1 ++ l.take 1
def steps (n : Nat) : List ((Nat × Nat) × Nat × Nat) := (spots n).zip (rotP (spots n))
theorem stepsLen (n : Nat) : (steps n).length = (n - 1) + (n - 1) + (n - 1) := by
  unfold steps rotP
  rw [List.length_zip, List.length_append, List.length_drop, List.length_take, spotsLen]
  omega
theorem stepsIn {n : Nat} (h : 2 ≤ n) : ∀ s ∈ steps n, s.1.1 + s.1.2 < n ∧ s.2.1 + s.2.2 < n := by
  intro s hs
  obtain ⟨a, b⟩ := s
  have z := List.of_mem_zip hs
  refine ⟨spotsIn h _ z.1, spotsIn h _ ?_⟩
  have z2 := z.2
  unfold rotP at z2
  rw [List.mem_append] at z2
  exact z2.elim (fun q => List.mem_of_mem_drop q) fun q => List.mem_of_mem_take q
def stC (g : Nat → Nat → Nat) (s : (Nat × Nat) × Nat × Nat) : Nat × Nat := (g s.1.1 s.1.2, g s.2.1 s.2.2)
theorem stepsPairs (n : Nat) (g : Nat → Nat → Nat) : (steps n).map (stC g) = pairs (codes n g) := by
  refine List.ext_getElem? fun i => ?_
  have lz : ∀ {α β : Type} (l : List α) (m : List β), (l.zip m)[i]? = (l[i]?).bind fun a => (m[i]?).map fun b => (a, b) := fun l m => by
    cases h1 : l[i]? with
    | none => rw [List.getElem?_eq_none (by rw [List.length_zip]; have := List.getElem?_eq_none_iff.mp h1; omega)]; rfl
    | some a => cases h2 : m[i]? with
      | none => rw [List.getElem?_eq_none (by rw [List.length_zip]; have := List.getElem?_eq_none_iff.mp h2; omega)]; rfl
      | some b => exact List.getElem?_zip_eq_some.mpr ⟨h1, h2⟩
  have er : rot (codes n g) = (rotP (spots n)).map fun s => g s.1 s.2 := by
    unfold rot rotP codes
    rw [List.map_append, List.map_drop, List.map_take]
  unfold steps pairs
  rw [List.getElem?_map, lz, lz, er, List.getElem?_map]
  unfold codes
  rw [List.getElem?_map]
  cases (spots n)[i]? with
  | none => rfl
  | some a => cases (rotP (spots n))[i]? with
    | none => rfl
    | some b => rfl
theorem spD_ok (s : Nat × Nat) : okD 1 (spD s) := okT fun d hd => by
  rcases List.mem_cons.mp hd with rfl | hd
  · exact okI _ 0
  · rw [List.mem_singleton] at hd
    subst hd
    exact okI _ 0
theorem stD_noL (s : (Nat × Nat) × Nat × Nat) : noL (stD s) = true := by
  unfold stD
  rw [noL, noLs, spD_noL, noLs, spD_noL, noLs]
  rfl
def Q_side_spots : List PyData → List PyData → Prop := fun ds es => ∃ n g, Tri n g ∧ ds = [.list (triD n g)] ∧ es = (spots n).map spD
def Q_side_steps : List PyData → List PyData → Prop := fun ds es => ∃ n g, Tri n g ∧ ds = [.list (triD n g)] ∧ es = (steps n).map stD
def drB (g : Nat → Nat → Nat) (s : (Nat × Nat) × Nat × Nat) : Bool := isAB (stC g s) || isBA (stC g s)
def Q_is_door : List PyData → PyData → Prop := fun ds d => ∃ n g s, Tri n g ∧ s.1.1 + s.1.2 < n ∧ s.2.1 + s.2.2 < n ∧ ds = [.list (triD n g), stD s] ∧ d = .bool (drB g s)
/-! what is told of a triangle -/
def spotsAll (n : Nat) : List (Nat × Nat) := (List.range n).flatMap fun r => (List.range (n - r)).map fun p => (r, p)
def firstBrk (n : Nat) (g : Nat → Nat → Nat) : Option (Nat × Nat) := (spotsAll n).find? fun s => brk n g s.1 s.2
def toldOf (n : Nat) (g : Nat → Nat → Nat) : Ans := match firstBrk n g with
  | some s => .breaks (s.1 : Nat) (s.2 : Nat)
  | none => match fullsOf n g with
    | s :: _ => .full (s.1 : Nat) (s.2.1 : Nat) (s.2.2 : Nat)
    | [] => .breaks (-1) (-1)
def Q_told : List PyData → Ans → Prop := fun ds a => ∃ n g, Tri n g ∧ ds = [.list (triD n g)] ∧ a = toldOf n g
theorem findFlat {α β : Type} (f : α → List β) (q : β → Bool) : ∀ (l : List α), (l.flatMap f).find? q = (l.find? fun a => ((f a).find? q).isSome).bind fun a => (f a).find? q
  | [] => rfl
  | a :: l => by
    rw [List.flatMap_cons, List.find?_append, findFlat f q l, List.find?_cons]
    cases h : (f a).find? q with
    | none => simp
    | some b => simp [h]
theorem findRange (q : Nat → Bool) (m i : Nat) (hi : i < m) (h : ∀ j, j < i → q j = false) (hq : q i = true) : (List.range m).find? q = some i := by
  have e : List.range m = List.range i ++ (List.range (m - i)).map (fun k => i + k) := by
    have := rangeApp (fun k => k) i (m - i)
    rw [List.map_id', List.map_id', show i + (m - i) = m by omega] at this
    exact this
  rw [e, List.find?_append, List.find?_eq_none.mpr fun j hj => by rw [h j (List.mem_range.mp hj)]; decide]
  obtain ⟨k, hk⟩ : ∃ k, m - i = k + 1 := ⟨m - i - 1, by omega⟩
  rw [hk, List.range_succ_eq_map, List.map_cons, List.find?_cons, Nat.add_zero, hq]
  rfl
theorem firstIs {n : Nat} {g : Nat → Nat → Nat} {r p : Nat} (hr : r < n) (hp : p < n - r) (h1 : ∀ r', r' < r → ∀ p', p' < n - r' → brk n g r' p' = false) (h2 : ∀ p', p' < p → brk n g r p' = false) (hb : brk n g r p = true) : firstBrk n g = some (r, p) := by
  have one : ((List.range (n - r)).map fun p => (r, p)).find? (fun s => brk n g s.1 s.2) = some (r, p) := by
    rw [List.find?_map]
    have := findRange ((fun s => brk n g s.1 s.2) ∘ fun p => (r, p)) (n - r) p hp h2 hb
    rw [this]
    rfl
  unfold firstBrk spotsAll
  rw [findFlat, findRange _ n r hr (fun j hj => ?_) (by rw [one]; rfl)]
  · exact one
  · rw [List.find?_eq_none.mpr]
    · rfl
    · intro s hs
      obtain ⟨p', hp', rfl⟩ := List.mem_map.mp hs
      rw [h1 j hj p' (List.mem_range.mp hp')]
      decide
theorem firstNone {n : Nat} {g : Nat → Nat → Nat} (h : ∀ r, r < n → ∀ p, p < n - r → brk n g r p = false) : firstBrk n g = none := by
  unfold firstBrk
  rw [List.find?_eq_none]
  intro s hs
  obtain ⟨r, hr, hs⟩ := List.mem_flatMap.mp hs
  obtain ⟨p, hp, rfl⟩ := List.mem_map.mp hs
  rw [h r (List.mem_range.mp hr) p (List.mem_range.mp hp)]
  decide
theorem keepsOf {n : Nat} {g : Nat → Nat → Nat} (h2 : 2 ≤ n) (h : ∀ r, r < n → ∀ p, p < n - r → brk n g r p = false) : Keeps n g := by
  constructor
  · intro p hp
    have z := h 0 (by omega) p (by omega)
    unfold brk at z
    simp only [Bool.or_eq_false_iff, Bool.and_eq_false_iff, decide_eq_false_iff_not] at z
    intro e
    rcases z.1.1 with z | z
    · exact z trivial
    · exact z e
  · intro r hr
    have z := h r hr 0 (by omega)
    unfold brk at z
    simp only [Bool.or_eq_false_iff, Bool.and_eq_false_iff, decide_eq_false_iff_not] at z
    intro e
    rcases z.1.2 with z | z
    · exact z trivial
    · exact z e
  · intro r hr
    have z := h r hr (n - 1 - r) (by omega)
    unfold brk at z
    simp only [Bool.or_eq_false_iff, Bool.and_eq_false_iff, decide_eq_false_iff_not] at z
    intro e
    rcases z.2 with z | z
    · exact z (by omega)
    · exact z e
theorem fullEx {n : Nat} {g : Nat → Nat → Nat} (tri : Tri n g) (h : firstBrk n g = none) : ∃ s l, fullsOf n g = s :: l := by
  have all : ∀ r, r < n → ∀ p, p < n - r → brk n g r p = false := fun r hr p hp => by
    unfold firstBrk at h
    rw [List.find?_eq_none] at h
    have z := h (r, p) (List.mem_flatMap.mpr ⟨r, List.mem_range.mpr hr, List.mem_map.mpr ⟨p, List.mem_range.mpr hp, rfl⟩⟩)
    simpa using z
  obtain ⟨s, hs, ht⟩ := sperner tri (keepsOf tri.lo all)
  cases e : fullsOf n g with
  | cons s l => exact ⟨s, l, rfl⟩
  | nil =>
    have : s ∈ fullsOf n g := List.mem_filter.mpr ⟨hs, by rw [decide_eq_false ht]; rfl⟩
    rw [e] at this
    cases this
end Dt

/-! replace, where a written number has given a token out; is not of truths. -/
namespace Dt
open PySem L2 Evl PyProof.Rows
/-- an expression behind which a token is out -/
structure PEK (X : Cx) (e : Expr) (t : TE) : Prop where
  run : ∀ (pins : List (Addr × Obj)) (s : Shared) (σ : L2.St) (H : Hp) (Q : VK), Inv X pins σ H s → t σ H Q → wpAny (model X.prog X.w) X.A (eval e X.env) (fun u s' => 1 ≤ s'.toks ∧ EP X pins σ Q u s') X.xe s
section
variable {X : Cx} {a b o : Expr} {ta tb to : TE} {t : TT} {pos p2 apos : Pos} {j : Nat} {i : Int}
theorem pe_ixK {r : R2} (hr : IxR X r) (ha : PE X a ta) (hs : PlainIx (.Constant (.int i) j p2)) : PEK X (.Subscript a (.Constant (.int i) j p2) pos) (tOp r ta (tC (.int i))) := by
  refine ⟨fun pins s σ H Q I h => Subscript_ (thn (ha.run pins s σ H _ I h) fun v s1 w1 => wpAny_Constant_int ?_)⟩
  obtain ⟨x, H1, I1, r1, q1⟩ := w1
  exact wpAny_mono (PySem.wpAny_toks (hr a _ pins _ σ H1 x (V.int i) v _ Q (I1.tok (s1.toks + 1)) r1 ⟨s1.toks, rfl⟩ q1 (hs _ _))) (fun u s' w => ⟨Nat.le_trans (Nat.le_add_left 1 s1.toks) w.1, w.2⟩) fun _ _ w => w.2
theorem pe_replK {y z : Str} {k : Nat} {c0 c1 : Pos} (ho : PEK X o to) (hyz : (y == z) = false := by decide +kernel)
    (hst : starEach [.Constant (.str y) j c0, .Constant (.str z) k c1] X.env = [(false, eval (.Constant (.str y) j c0) X.env), (false, eval (.Constant (.str z) k c1) X.env)] := by rfl) (hbase : attributeBase o "replace" X.env (eval o X.env) = eval o X.env := by rfl) (hline : (apos.endLine == pos.line) = true := by rfl) :
    PE X (.Call (.Attribute o "replace" apos) [.Constant (.str y) j c0, .Constant (.str z) k c1] [] pos) (CwR.tReplC to y z) := by
  refine ⟨fun pins s σ H Q I h => PySem.Call_method2 hbase hst hline (thn (ho.run pins s σ H _ I h) fun v s1 w => ?_)⟩
  obtain ⟨hk, v', H1, I1, r1, x, rfl, hb, q⟩ := w
  obtain ⟨tx, rfl⟩ := r1
  refine ⟨"str", _, PySem.F.plainAttrs_str, PySem.F.slot_str_replace, PySem.F.type_str_replace, typeIs_str _ _ _, (fun _ e => nomatch e), Calls.callWith_builtin rfl (Calls.evalArgs_plain (Calls.spliced_cons (Calls.Constant_str (Calls.spliced_cons (Calls.Constant_str (Calls.spliced_nil ?_))))))⟩
  exact PySem.SC.replace (by show s1.toks ≠ 0; omega) (by show s1.toks + 1 ≠ 0; omega) (by show s1.toks ≠ s1.toks + 1; omega) hyz hb fun t' n => ⟨V.str (Txt.replace x y z), H1, I1.tok n, ⟨t', rfl⟩, q⟩
theorem pe_ifExpK {c : Expr} (hc : PTK X c t) (ha : PET X a ta) (hb : PET X b tb) : PE X (.IfExp c a b pos) (tIf t ta tb) := by
  refine ⟨fun pins s σ H Q I h => wpAny_IfExp (thn (hc.run pins s σ H _ I h) fun d s1 w => ?_)⟩
  obtain ⟨hk, H1, I1, q1⟩ := w
  cases d with
  | true => exact ha pins s1 σ H1 Q hk I1 q1
  | false => exact hb pins s1 σ H1 Q hk I1 q1
def rNotB : R2 := fun x y H Q => ∃ m n, x = .bl m ∧ y = .bl n ∧ Q (.bl (!decide (m = n))) H
theorem op_notB : OpR X (compareOp .IsNot) rNotB := by
  intro pins s σ H x y v u Q I rx ry h
  obtain ⟨m, n, rfl, rfl, q⟩ := h
  cases (show v = Value.bool m from rx)
  cases (show u = Value.bool n from ry)
  by_cases e : m = n
  · subst e
    exact wpAny_isNot_self rfl ⟨.bl false, H, I, rfl, by simpa using q⟩
  · exact wpAny_isNot_other rfl (fun z => e (Value.bool.inj z)) ⟨.bl true, H, I, rfl, by simpa [e] using q⟩
end
section
variable {K : PySem.W.Frag} {σ : L2.St} {H : Hp} {te tb : TE} {d : PyData}
theorem edNotB {m n : Bool} (ha : EvD K te σ H (.bool m)) (hb : EvD K tb σ H (.bool n)) : EvD K (tOp rNotB te tb) σ H (.bool (!decide (m = n))) := edB fun H1 a Q q => evB ha H1 a _ fun H2 b => evB hb H2 (a.trans b) _ fun H3 c => ⟨m, n, rfl, rfl, q H3 (b.trans c)⟩
theorem edRepl {x y z : Str} (h : EvD K te σ H (.str x)) (hl : x.length + (x.length + 1) * z.length ≤ 16777216) : EvD K (CwR.tReplC te y z) σ H (.str (Txt.replace x y z)) := edS fun H1 a Q q => evS h H1 a _ fun H2 b => ⟨x, rfl, hl, q H2 b⟩
end
end Dt

/-! Texts turned round, signs replaced; answers asked for their word. -/
namespace Dt
open PySem L2 Evl PyProof.Rows
open PySem.StrLaws (replL replL_nil replL_hit replL_miss replace_list)

theorem roomU {k : Nat} {A : Around} (hr : Room k A) : A.units + 65 < cLine := by have := hr.un; omega
theorem room10 {k : Nat} {A : Around} (hr : Room k A) : A.units + 10 < cLine := by have := hr.un; omega
theorem room8 {k : Nat} {A : Around} (hr : Room k A) : A.units + 8 < cLine := by have := hr.un; omega
/-! s[::-1] -/
def revS (x : Str) : Str := ⟨x.cps.toList.reverse.toArray⟩
theorem pickRev (x : Str) : (Builtin.Str.strSliceIndices none none (-1) x.length).filterMap (x.cps[·]?) = x.cps.toList.reverse := by
  have hs : x.cps.size = x.length := rfl
  rw [picked_rev, filterMap_get _ _ fun i hi => by
    obtain ⟨k, hk, rfl⟩ := List.mem_map.mp hi
    rw [List.mem_range] at hk
    omega]
  refine List.ext_getElem? fun i => ?_
  rw [List.map_map, List.getElem?_map]
  by_cases hi : i < x.length
  · rw [List.getElem?_range hi, List.getElem?_reverse (by rw [Array.length_toList]; omega), Array.length_toList, Array.getElem?_toList, hs, Array.getElem?_eq_getElem (by omega)]
    show some (x.cps.getD (x.length - 1 - i) 0) = _
    have : x.length - 1 - i < x.cps.size := by omega
    simp [Array.getD, this]
  · rw [List.getElem?_eq_none (by rw [List.length_range]; omega), List.getElem?_eq_none (by rw [List.length_reverse, Array.length_toList]; omega)]
    rfl
def tRevS (te : TE) : TE := fun σ H Q => te σ H fun x H1 => ∃ z, x = .str z ∧ z.length ≤ sizeLine ∧ Q (.str (revS z)) H1
theorem pe_revS {X : Cx} {e : Expr} {te : TE} {k : Nat} {p1 p2 p3 pos : Pos} (he : PE X e te) : PE X (.Subscript e (.Slice none none (some (.UnaryOp .USub (.Constant (.int 1) k p1) p2)) p3) pos) (tRevS te) := by
  refine ⟨fun pins s σ H Q I h => Subscript_ (thn (he.run pins s σ H _ I h) fun v s1 w => ?_)⟩
  obtain ⟨x, H1, I1, r1, z, rfl, hz, q⟩ := w
  obtain ⟨t, rfl⟩ := r1
  refine wpAny_Slice (thn (po_none.run pins s1 σ H1 (fun o H2 => o = none ∧ H2 = H1) I1 ⟨rfl, rfl⟩) fun vl s2 w2 => thn (po_none.run pins s2 σ H1 (fun o H3 => o = none ∧ H3 = H1) (by obtain ⟨l, H2, I2, _, rfl, rfl⟩ := w2; exact I2) ⟨rfl, rfl⟩) fun vu s3 w3 => ?_)
  obtain ⟨l, H2, I2, pl, el, e2⟩ := w2
  obtain ⟨u, H3, I3, pu, eu, e3⟩ := w3
  subst el e2 eu e3
  refine thn ((po_some (pe_un un_neg pe_int)).run pins s3 σ H3 (fun o H4 => o = some (-1) ∧ H4 = H3) I3 ⟨1, rfl, -1, rfl, rfl, rfl⟩) fun vs s4 w4 => ?_
  obtain ⟨o, H4, I4, ps, eo, e4⟩ := w4
  subst eo e4
  have I5 : Inv X pins σ H4 { s4 with heap := s4.heap.push { cls := .type "slice", data := .fields #[vl, vu, vs] } } := I4.kept (t' := s4.toks) fun b ob y => Heap.get?_push_of_some _ y
  obtain ⟨l', rfl, hl'⟩ := IsPart.raw pl
  obtain ⟨u', rfl, hu'⟩ := IsPart.raw pu
  obtain ⟨w', rfl, hw'⟩ := IsPart.raw ps
  refine tail_any (ops := [.str z t, .ref s4.heap.objs.size]) (typeIs_str _ _ _) (PySem.F.slot_str_getitem.lookup) ?_ (by with_unfolding_all rfl)
  refine wpAny_getItem_str_slice (l := l') (u := u') (st := w') ⟨_, Heap.get?_push_size _ rfl, rfl, rfl⟩ (by rw [hw']; rfl) ?_
  have e0 : sliceMade z t l' u' w' = .str (revS z) := by
    unfold sliceMade slicePicked
    rw [hw', hl', hu']
    show (if ((-1 : Int) == 1 && _) = true then _ else Made.str ⟨((Builtin.Str.strSliceIndices none none (-1) z.length).filterMap (z.cps[·]?)).toArray⟩) = _
    rw [if_neg (fun h => by rw [show ((-1 : Int) == 1) = false from rfl, Bool.false_and] at h; cases h), pickRev]
    rfl
  rw [e0]
  exact ⟨by show (z.cps.toList.reverse.toArray).size ≤ sizeLine; rw [List.size_toArray, List.length_reverse, Array.length_toList]; exact hz, .str (revS z), H4, I5.tok _, ⟨_, rfl⟩, q⟩
theorem revSOf (l : List Nat) : revS (sOf l) = sOf l.reverse := rfl
section
variable {K : PySem.W.Frag} {σ : L2.St} {H H' : Hp} {te tb : TE} {ta : TA} {d : PyData}
theorem edRevS {x : Str} (h : EvD K te σ H (.str x)) (hl : x.length ≤ 100000) : EvD K (tRevS te) σ H (.str (revS x)) := edS fun H1 a Q q => evS h H1 a _ fun H2 b => ⟨x, rfl, sz_of hl, q H2 b⟩
end
/-! one sign replaced by one sign -/
def swp (c d : Nat) (l : List Nat) : List Nat := l.map fun k => if k = c then d else k
theorem replOne (c d : Nat) : ∀ l : List Nat, replL [c] [d] l = swp c d l
  | [] => by rw [replL_nil]; rfl
  | k :: l => by
    by_cases h : k = c
    · subst h
      rw [replL_hit (by simp) (by simp)]
      show [d] ++ replL [k] [d] l = _
      rw [replOne k d l]
      unfold swp
      rw [List.map_cons, if_pos rfl]
      rfl
    · rw [replL_miss (by simpa using h), replOne c d l]
      unfold swp
      rw [List.map_cons, if_neg h]
theorem replSign (c d : Nat) (l : List Nat) : Txt.replace (sOf l) ⟨#[c]⟩ ⟨#[d]⟩ = sOf (swp c d l) := by
  have e := replace_list (x := sOf l) (y := ⟨#[c]⟩) (z := ⟨#[d]⟩) (Nat.le_refl 1)
  have e2 : (Txt.replace (sOf l) ⟨#[c]⟩ ⟨#[d]⟩).cps.toList = swp c d l := by
    rw [e]
    exact replOne c d l
  have e3 := sOfSelf (Txt.replace (sOf l) ⟨#[c]⟩ ⟨#[d]⟩)
  rw [← e3, e2]
/-! the answer's own word -/
def SpFull (K : PySem.W.Frag) (c : Kls) : Sp := fun vs H Q _ => ∃ x v dx n g r p u, vs = [.ref x, v] ∧ Tri n g ∧ Dp K H v (.list (triD n g)) ∧ H x = some (.ins c.full dx [("row", .int r), ("place", .int p), ("up", .int u)]) ∧ ∀ H', Ex H H' → Q (.bl (fullB n g r p u)) H'
def SpBreaks (K : PySem.W.Frag) (c : Kls) : Sp := fun vs H Q _ => ∃ x v dx n g r p, vs = [.ref x, v] ∧ Tri n g ∧ Dp K H v (.list (triD n g)) ∧ H x = some (.ins c.breaks dx [("row", .int r), ("place", .int p)]) ∧ ∀ H', Ex H H' → Q (.bl (brkB n g r p)) H'
/-- what an answer says of a triangle -/
def dueB (n : Nat) (g : Nat → Nat → Nat) : Ans → Bool
  | .full r p u => fullB n g r p u
  | .breaks r p => brkB n g r p
  | _ => false
def clsOf (c : Kls) : Ans → Addr
  | .full .. => c.full
  | .breaks .. => c.breaks
  | .ended .. => c.ended
  | .out .. => c.out
theorem AnsN.ins {c : Kls} {K : PySem.W.Frag} {H0 H : Hp} {x : Addr} {a : Ans} (h : AnsN c K H0 H x a) : ∃ dx fs, H x = some (.ins (clsOf c a) dx fs) := by
  cases a with
  | full r p u => obtain ⟨dx, h⟩ := h; exact ⟨_, _, h⟩
  | breaks r p => obtain ⟨dx, h⟩ := h; exact ⟨_, _, h⟩
  | ended l => obtain ⟨dx, q, h, _⟩ := h; exact ⟨_, _, h⟩
  | out l d => obtain ⟨dx, q, h, _⟩ := h; exact ⟨_, _, h⟩
section
variable {c : Kls} {K : PySem.W.Frag} {σ : L2.St} {H H' : Hp} {te : TE} {ta : TA}
theorem noShows1 {a b d : V} : List.lookup ("shows" : Str) [("row", a), ("place", b), ("up", d)] = none := by
  rw [lkTl (by decide +kernel), lkTl (by decide +kernel), lkTl (by decide +kernel)]
  rfl
theorem noShows2 {a b : V} : List.lookup ("shows" : Str) [("row", a), ("place", b)] = none := by
  rw [lkTl (by decide +kernel), lkTl (by decide +kernel)]
  rfl
theorem edFullShows {x dx : Addr} {n : Nat} {g : Nat → Nat → Nat} {r p u : Int} {E : XK} (tri : Tri n g) (h : Ev te σ H (.ref x)) (hx : H x = some (.ins c.full dx [("row", .int r), ("place", .int p), ("up", .int u)])) (ha : EvAD K ta σ H [.list (triD n g)]) : EvD K (tMeth c.full "shows" (SpFull K c) [] E te ta) σ H (.bool (fullB n g r p u)) := edB fun H1 e Q q =>
  h H1 e _ fun H2 b => ⟨x, dx, _, rfl, b _ _ (e _ _ hx), noShows1, ha H2 (e.trans b) _ fun vs H3 k hd => by
    obtain ⟨v, rfl, h1⟩ := dps1 hd
    exact ⟨x, v, dx, n, g, r, p, u, rfl, tri, h1, k _ _ (b _ _ (e _ _ hx)), fun H4 l => q H4 ((b.trans k).trans l)⟩⟩
theorem edBreaksShows {x dx : Addr} {n : Nat} {g : Nat → Nat → Nat} {r p : Int} {E : XK} (tri : Tri n g) (h : Ev te σ H (.ref x)) (hx : H x = some (.ins c.breaks dx [("row", .int r), ("place", .int p)])) (ha : EvAD K ta σ H [.list (triD n g)]) : EvD K (tMeth c.breaks "shows" (SpBreaks K c) [] E te ta) σ H (.bool (brkB n g r p)) := edB fun H1 e Q q =>
  h H1 e _ fun H2 b => ⟨x, dx, _, rfl, b _ _ (e _ _ hx), noShows2, ha H2 (e.trans b) _ fun vs H3 k hd => by
    obtain ⟨v, rfl, h1⟩ := dps1 hd
    exact ⟨x, v, dx, n, g, r, p, rfl, tri, h1, k _ _ (b _ _ (e _ _ hx)), fun H4 l => q H4 ((b.trans k).trans l)⟩⟩
/-- of an answer that stands | that is just told -/
theorem edIsiX {x D0 : Addr} {a : Ans} {H0 : Hp} {b : Bool} (h : Ev te σ H (.ref x)) (hx : AnsN c K H0 H x a) (o : OwnC K (clsOf c a)) (hk : PySem.W.kitOne K (.ref (clsOf c a)) (.ref D0) = some b) : EvD K (tCB (rIsi K) (tCons te (tCons (tC (.ref D0)) tNil))) σ H (.bool b) := by
  obtain ⟨dx, fs, hx⟩ := hx.ins
  exact edIsiO h hx o hk
theorem edIsiA {D0 : Addr} {a : Ans} {b : Bool} (h : EvAn c K te σ H a) (o : OwnC K (clsOf c a)) (hk : PySem.W.kitOne K (.ref (clsOf c a)) (.ref D0) = some b) : EvD K (tCB (rIsi K) (tCons te (tCons (tC (.ref D0)) tNil))) σ H (.bool b) := edB fun H1 e Q q =>
  h H1 e _ fun x H2 hn k hx => by
    obtain ⟨dx, fs, hx⟩ := hx.ins
    exact ⟨.ref x, .ref D0, _, _, b, rfl, .own D0, .base (.ins hx o.cl o.ha o.hn o.tk o.hm), hk, q H2 k⟩
/-- a field of an answer that is just told -/
theorem edFldA {f : Str} {a : Ans} {d : PyData} (h : EvAn c K te σ H a) (cl : Cls K (clsOf c a)) (na : NoAttr K (clsOf c a) f) (hf : ∀ H1 H2 x, AnsN c K H1 H2 x a → ∃ dx fs v, H2 x = some (.ins (clsOf c a) dx fs) ∧ fs.lookup f = some v ∧ Dp K H2 v d) : EvD K (tFld K te f) σ H d := fun H1 e Q q =>
  h H1 e _ fun x H2 hn k hx => by
    obtain ⟨dx, fs, v, h1, h2, h3⟩ := hf _ _ _ hx
    exact ⟨x, _, dx, fs, v, rfl, h1, cl, na, h2, q v H2 k h3⟩
end
end Dt

/-! What the laws compare answers with. -/
namespace Dt
open PySem L2 Evl PyProof.Rows

theorem eqvInt (a b : Int) : PyData.eqv (.int a) (.int b) = decide (a = b) := by
  unfold PyData.eqv
  rfl
theorem eqvTup3 (a b c x y z : Int) : PyData.eqv (smZ a b c) (smZ x y z) = (decide (a = x) && (decide (b = y) && decide (c = z))) := by
  unfold smZ
  rw [PyData.eqv, PyData.eqvAll, PyData.eqvAll, PyData.eqvAll, PyData.eqvAll, eqvInt, eqvInt, eqvInt, Bool.and_true]
theorem fullAny (n : Nat) (g : Nat → Nat → Nat) (r p u : Int) : ((fullsOf n g).map smD).any (fun z => PyData.eqv z (smZ r p u)) = fullB n g r p u := by
  rw [List.any_map, Bool.eq_iff_iff, List.any_eq_true]
  have one : ∀ s : Nat × Nat × Nat, ((fun z => PyData.eqv z (smZ r p u)) ∘ smD) s = true ↔ ((s.1 : Int) = r ∧ (s.2.1 : Int) = p ∧ (s.2.2 : Int) = u) := fun s => by
    show PyData.eqv (smZ (s.1 : Nat) (s.2.1 : Nat) (s.2.2 : Nat)) (smZ r p u) = true ↔ _
    rw [eqvTup3]
    simp only [Bool.and_eq_true, decide_eq_true_eq]
  unfold fullB
  rw [Bool.and_eq_true]
  constructor
  · rintro ⟨⟨a, b, c⟩, hs, e⟩
    obtain ⟨e1, e2, e3⟩ := (one _).mp e
    obtain ⟨hm, ht⟩ := List.mem_filter.mp hs
    have e1 : (a : Int) = r := e1
    have e2 : (b : Int) = p := e2
    have e3 : (c : Int) = u := e3
    subst e1 e2 e3
    exact ⟨smBOf (smAll_is hm), ht⟩
  · rintro ⟨h1, h2⟩
    obtain ⟨a, b, c, rfl, rfl, rfl, sm⟩ := smOfB h1
    exact ⟨(a, b, c), List.mem_filter.mpr ⟨smIn sm, h2⟩, (one _).mpr ⟨rfl, rfl, rfl⟩⟩
theorem dd3Is {a b c : Nat} (ha : Code a) (hb : Code b) (hc : Code c) : decide (((dd (w3 a b c).cps.toList).length : Int) = 3) = !decide (turn3 a b c = 0) := by
  rcases ha with rfl | rfl | rfl <;> rcases hb with rfl | rfl | rfl <;> rcases hc with rfl | rfl | rfl <;> decide +kernel
def firstD (n : Nat) (g : Nat → Nat → Nat) : PyData := match firstBrk n g with
  | some s => spD s
  | none => .none
def Q__law_first : List PyData → PyData → Prop := fun ds d => ∃ n g, Tri n g ∧ ds = [.list (triD n g)] ∧ d = firstD n g
/-! what an answer says of a triangle, by the law's own look -/
def isFB : Ans → Bool
  | .full .. => true
  | .breaks .. => true
  | _ => false
def SpDue (K : PySem.W.Frag) (c : Kls) : Sp := fun vs H Q _ => ∃ v x n g a H0, vs = [v, .ref x] ∧ Tri n g ∧ Dp K H v (.list (triD n g)) ∧ AnsN c K H0 H x a ∧ isFB a = true ∧ ∀ H', Ex H H' → Q (.bl (dueB n g a)) H'
theorem smZ_ok (r p u : Int) : okD 1 (smZ r p u) := okT fun d hd => by
  rcases List.mem_cons.mp hd with rfl | hd
  · exact okI _ 0
  · rcases List.mem_cons.mp hd with rfl | hd
    · exact okI _ 0
    · rw [List.mem_singleton] at hd
      subst hd
      exact okI _ 0
/-! cuts to the last sign -/
theorem sIxBut (l : List Nat) : HT.sIx (sOf l).length (sOf l).length (some (-1)) = l.length - 1 := by
  rw [sOfLen]
  show (if (-1 : Int) < 0 then ((-1 : Int) + (l.length : Int)).toNat else min (-1 : Int).toNat l.length) = l.length - 1
  rw [if_pos (by decide)]
  omega
theorem sIxBut0 (l : List Nat) : HT.sIx (sOf l).length 0 (some (-1)) = l.length - 1 := by
  rw [sOfLen]
  show (if (-1 : Int) < 0 then ((-1 : Int) + (l.length : Int)).toNat else min (-1 : Int).toNat l.length) = l.length - 1
  rw [if_pos (by decide)]
  omega
theorem cutSMidBut (l : List Nat) : cutS (sOf l) (some (1 : Int)) (some (-1)) = sOf ((l.take (l.length - 1)).drop 1) := by
  unfold cutS
  rw [sIxBut, show HT.sIx (sOf l).length 0 (some (1 : Int)) = min 1 (sOf l).length from HT.sIx_nat _ _ 1, sOfLen]
  show sOf ((l.drop (min 1 l.length)).take (l.length - 1 - min 1 l.length)) = sOf ((l.take (l.length - 1)).drop 1)
  congr 1
  cases l with
  | nil => rfl
  | cons c l =>
    rw [List.length_cons, Nat.min_eq_left (by omega), Nat.add_sub_cancel, List.drop_take]
theorem cutSLast (l : List Nat) : cutS (sOf l) (some (-1)) none = sOf (l.drop (l.length - 1)) := by
  unfold cutS
  rw [sIxBut0, HT.sIx_none, sOfLen]
  show sOf ((l.drop (l.length - 1)).take (l.length - (l.length - 1))) = sOf (l.drop (l.length - 1))
  rw [List.take_of_length_le (by rw [List.length_drop]; exact Nat.le_refl _)]
/-! the triangle with a side that keeps the rule -/
def rowL (n : Nat) (g : Nat → Nat → Nat) (r : Nat) : List Nat := (List.range (n - r)).map (g r)
theorem rowLLen (n : Nat) (g : Nat → Nat → Nat) (r : Nat) : (rowL n g r).length = n - r := by unfold rowL; rw [List.length_map, List.length_range]
theorem rowSL (n : Nat) (g : Nat → Nat → Nat) (r : Nat) : rowS n g r = sOf (rowL n g r) := rfl
theorem rowLOk {n : Nat} {g : Nat → Nat → Nat} (tri : Tri n g) (r : Nat) : ∀ c ∈ rowL n g r, Code c := fun c hc => by
  obtain ⟨p, _, rfl⟩ := List.mem_map.mp hc
  exact tri.ok r p
/-- a row further up -/
def kept1 (l : List Nat) : List Nat := if 1 < l.length then swp 98 99 (l.take 1) ++ (l.take (l.length - 1)).drop 1 ++ swp 97 99 (l.drop (l.length - 1)) else [99]
def kept0 (l : List Nat) : List Nat := [97] ++ (l.take (l.length - 1)).drop 1 ++ [98]
def keptRow (n : Nat) (g : Nat → Nat → Nat) (r : Nat) : List Nat := if r = 0 then kept0 (swp 99 97 (rowL n g 0)) else kept1 (rowL n g r)
def Q__law_kept : List PyData → List PyData → Prop := fun ds es => ∃ n g, Tri n g ∧ ds = [.list (triD n g)] ∧ es = (List.range n).map fun r => .str (sOf (keptRow n g r))
theorem swpLen (c d : Nat) (l : List Nat) : (swp c d l).length = l.length := by unfold swp; rw [List.length_map]
theorem swpOk {c d : Nat} (hd : Code d) {l : List Nat} (h : ∀ k ∈ l, Code k) : ∀ k ∈ swp c d l, Code k := fun k hk => by
  obtain ⟨j, hj, rfl⟩ := List.mem_map.mp hk
  split
  · exact hd
  · exact h j hj
theorem kept1Is {l : List Nat} (h0 : 0 < l.length) (h : ∀ c ∈ l, Code c) : (kept1 l).length = l.length ∧ ∀ c ∈ kept1 l, Code c := by
  unfold kept1
  split
  · refine ⟨?_, fun c hc => ?_⟩
    · rw [List.length_append, List.length_append, swpLen, swpLen, List.length_take, List.length_drop, List.length_take, List.length_drop]
      omega
    · rcases List.mem_append.mp hc with hc | hc
      · rcases List.mem_append.mp hc with hc | hc
        · exact swpOk (.inr (.inr rfl)) (fun k hk => h k (List.mem_of_mem_take hk)) c hc
        · exact h c (List.mem_of_mem_take (List.mem_of_mem_drop hc))
      · exact swpOk (.inr (.inr rfl)) (fun k hk => h k (List.mem_of_mem_drop hk)) c hc
  · refine ⟨by show 1 = l.length; omega, fun c hc => ?_⟩
    rw [List.mem_singleton] at hc
    exact .inr (.inr hc)
theorem kept0Is {l : List Nat} (h0 : 2 ≤ l.length) (h : ∀ c ∈ l, Code c) : (kept0 l).length = l.length ∧ ∀ c ∈ kept0 l, Code c := by
  unfold kept0
  refine ⟨?_, fun c hc => ?_⟩
  · rw [List.length_append, List.length_append, List.length_drop, List.length_take]
    show 1 + _ + 1 = _
    omega
  · rcases List.mem_append.mp hc with hc | hc
    · rcases List.mem_append.mp hc with hc | hc
      · rw [List.mem_singleton] at hc
        exact .inl hc
      · exact h c (List.mem_of_mem_take (List.mem_of_mem_drop hc))
    · rw [List.mem_singleton] at hc
      exact .inr (.inl hc)
theorem keptTri {n : Nat} {g : Nat → Nat → Nat} (tri : Tri n g) : ∃ g', Tri n g' ∧ ((List.range n).map fun r => PyData.str (sOf (keptRow n g r))) = triD n g' := by
  refine ⟨gOf' ((List.range n).map (keptRow n g)), ⟨tri.lo, tri.hi, gOfOk _⟩, ?_⟩
  rw [← gOfRow (n := n) (by rw [List.length_map, List.length_range]) (fun j l hj => ?_), List.map_map]
  · rfl
  · rw [List.getElem?_map] at hj
    have lo := tri.lo
    by_cases hjn : j < n
    · rw [List.getElem?_range hjn] at hj
      cases hj
      unfold keptRow
      split
      · rename_i h
        subst h
        have z := kept0Is (l := swp 99 97 (rowL n g 0)) (by rw [swpLen, rowLLen]; omega) (swpOk (.inl rfl) (rowLOk tri 0))
        rw [swpLen, rowLLen] at z
        exact z
      · have z := kept1Is (l := rowL n g j) (by rw [rowLLen]; omega) (rowLOk tri j)
        rw [rowLLen] at z
        exact z
    · rw [List.getElem?_eq_none (by rw [List.length_range]; omega)] at hj
      cases hj
/-! turned over from left to right; without its left side -/
def revG (n : Nat) (g : Nat → Nat → Nat) : Nat → Nat → Nat := fun r p => g r (n - r - 1 - p)
theorem revTri {n : Nat} {g : Nat → Nat → Nat} (tri : Tri n g) : Tri n (revG n g) := ⟨tri.lo, tri.hi, fun _ _ => tri.ok _ _⟩
theorem revRow (n : Nat) (g : Nat → Nat → Nat) (r : Nat) : revS (rowS n g r) = rowS n (revG n g) r := by
  show sOf ((List.range (n - r)).map (g r)).reverse = sOf ((List.range (n - r)).map (revG n g r))
  congr 1
  refine List.ext_getElem? fun i => ?_
  rw [List.getElem?_map]
  by_cases hi : i < n - r
  · rw [List.getElem?_reverse (by rw [List.length_map, List.length_range]; exact hi), List.length_map, List.length_range, List.getElem?_map, List.getElem?_range (by omega), List.getElem?_range hi]
    rfl
  · rw [List.getElem?_eq_none (by rw [List.length_reverse, List.length_map, List.length_range]; omega), List.getElem?_eq_none (by rw [List.length_range]; omega)]
    rfl
def lessG (g : Nat → Nat → Nat) : Nat → Nat → Nat := fun r p => g r (p + 1)
theorem lessTri {n : Nat} {g : Nat → Nat → Nat} (tri : Tri n g) (h : 2 < n) : Tri (n - 1) (lessG g) := ⟨by omega, by have := tri.hi; omega, fun _ _ => tri.ok _ _⟩
theorem lessRow (n : Nat) (g : Nat → Nat → Nat) (r : Nat) (h : r < n - 1) : cutS (rowS n g r) (some (1 : Int)) none = rowS (n - 1) (lessG g) r := by
  show cutS (sOf ((List.range (n - r)).map (g r))) (some ((1 : Nat) : Int)) none = sOf ((List.range (n - 1 - r)).map (lessG g r))
  rw [cutSFrom]
  congr 1
  obtain ⟨m, hm⟩ : ∃ m, n - r = m + 1 := ⟨n - r - 1, by omega⟩
  rw [hm, show n - 1 - r = m by omega, List.range_succ_eq_map, List.map_cons, List.map_map]
  rfl
theorem cutDBut (ds : List PyData) : cutD ds none (some (-1)) = ds.take (ds.length - 1) := by
  unfold cutD
  have e : HT.sIx ds.length ds.length (some (-1)) = ds.length - 1 := by
    show (if (-1 : Int) < 0 then ((-1 : Int) + (ds.length : Int)).toNat else min (-1 : Int).toNat ds.length) = ds.length - 1
    rw [if_pos (by decide)]
    omega
  rw [e, HT.sIx_none, Nat.sub_zero, List.drop_zero]
def gC2 (r p : Nat) : Nat := if r = 0 ∧ p = 1 then 98 else 97
theorem triC2 : Tri 2 gC2 := ⟨by decide, by decide, fun r p => by
  unfold gC2 Code
  split
  · exact .inr (.inl rfl)
  · exact .inl rfl⟩
theorem dC2 : [PyData.str "ab", .str "a"] = triD 2 gC2 := by
  have e : (("ab" : Str), ("a" : Str)) = (rowS 2 gC2 0, rowS 2 gC2 1) := by decide +kernel
  show [PyData.str "ab", .str "a"] = [.str (rowS 2 gC2 0), .str (rowS 2 gC2 1)]
  have e1 := congrArg Prod.fst e
  have e2 := congrArg Prod.snd e
  simp only at e1 e2
  rw [e1, e2]
theorem toldA : toldOf 2 gA = .full 0 0 1 := by
  unfold toldOf
  rw [show firstBrk 2 gA = none by decide +kernel, fA]
  rfl
theorem toldC2 : toldOf 2 gC2 = .breaks 1 0 := by
  unfold toldOf
  rw [show firstBrk 2 gC2 = some (1, 0) by decide +kernel]
  rfl
theorem toldFB {n : Nat} {g : Nat → Nat → Nat} : isFB (toldOf n g) = true := by
  unfold toldOf
  split
  · rfl
  · split <;> rfl
/-- what is told is so -/
theorem toldDue {n : Nat} {g : Nat → Nat → Nat} (tri : Tri n g) : dueB n g (toldOf n g) = true := by
  unfold toldOf
  cases h : firstBrk n g with
  | some s =>
    have hb : brk n g s.1 s.2 = true := List.find?_some (p := fun s : Nat × Nat => brk n g s.1 s.2) h
    have hm := List.mem_of_find?_eq_some h
    obtain ⟨r, hr, hm⟩ := List.mem_flatMap.mp hm
    obtain ⟨p, hp, rfl⟩ := List.mem_map.mp hm
    rw [List.mem_range] at hr hp
    show brkB n g (r : Nat) (p : Nat) = true
    unfold brkB
    rw [Bool.and_eq_true]
    exact ⟨decide_eq_true ⟨by omega, by omega, by omega⟩, hb⟩
  | none =>
    obtain ⟨⟨r, p, u⟩, l, e⟩ := fullEx tri h
    have hm : (r, p, u) ∈ fullsOf n g := by rw [e]; exact List.mem_cons_self
    obtain ⟨h1, h2⟩ := List.mem_filter.mp hm
    rw [e]
    show fullB n g (r : Nat) (p : Nat) (u : Nat) = true
    unfold fullB
    rw [Bool.and_eq_true]
    exact ⟨smBOf (smAll_is h1), h2⟩
end Dt

/-! Small rules for the laws. -/
namespace Dt
open PySem L2 Evl PyProof.Rows
theorem eqvBl (a b : Bool) : PyData.eqv (.bool a) (.bool b) = decide (a = b) := by
  revert a b
  decide +kernel
section
variable {c : Kls} {K : PySem.W.Frag} {σ : L2.St} {H H' : Hp} {ta tb te : TE} {t1 t2 : TE} {t : TT} {d : PyData}
theorem edEqB {a b : Bool} (ha : EvD K ta σ H (.bool a)) (hb : EvD K tb σ H (.bool b)) : EvD K (tOp (rEqD K) ta tb) σ H (.bool (decide (a = b))) := edB (ev_is (evEq ha hb rfl rfl) (by rw [eqvBl]))
theorem edNeB {a b : Bool} (ha : EvD K ta σ H (.bool a)) (hb : EvD K tb σ H (.bool b)) : EvD K (tOp (rNeD K) ta tb) σ H (.bool (!decide (a = b))) := edB (ev_is (evNe ha hb rfl rfl) (by rw [eqvBl]))
theorem enIf {b : Bool} {ds : List PyData} (h : EvT t σ H b) (h1 : b = true → EvN K ta σ H ds) (h2 : b = false → EvN K tb σ H ds) : EvN K (tIf t ta tb) σ H ds := fun H1 a Q q => h H1 a _ fun H2 k => by
  cases b with
  | true => exact h1 rfl H2 (a.trans k) _ fun p xs H3 hp e h3 hd => q p xs H3 (fresh_back k hp) (k.trans e) h3 hd
  | false => exact h2 rfl H2 (a.trans k) _ fun p xs H3 hp e h3 hd => q p xs H3 (fresh_back k hp) (k.trans e) h3 hd
theorem edOrL (h : EvD K t1 σ H d) : EvD K (fun σ H Q => t1 σ H Q ∨ t2 σ H Q) σ H d := fun H1 e Q q => .inl (h H1 e Q q)
theorem edOrR (h : EvD K t2 σ H d) : EvD K (fun σ H Q => t1 σ H Q ∨ t2 σ H Q) σ H d := fun H1 e Q q => .inr (h H1 e Q q)
theorem edDue {n : Nat} {g : Nat → Nat → Nat} {a : Ans} {i j : Nat} {v : V} {x : Addr} {H0 : Hp} {E : XK} (tri : Tri n g) (hi : σ[i]? = some (some v)) (hj : σ[j]? = some (some (.ref x))) (hv : Dp K H v (.list (triD n g))) (hx : AnsN c K H0 H x a) (hf : isFB a = true) :
    EvD K (tCall (SpDue K c) [] E (tCons (tVar i) (tCons (tVar j) tNil))) σ H (.bool (dueB n g a)) := edB fun H1 e Q q =>
  ⟨v, hi, .ref x, hj, v, x, n, g, a, H0, rfl, tri, dpUp e hv, hx.up e, hf, fun H2 e2 => q H2 e2⟩
end
def isFl : Ans → Bool
  | .full .. => true
  | _ => false
def numsOf : Ans → List Int
  | .full r p u => [r, p, u]
  | .breaks r p => [r, p]
  | _ => []
def rowOf : Ans → Int
  | .full r _ _ => r
  | .breaks r _ => r
  | _ => 0
def placeOf : Ans → Int
  | .full _ p _ => p
  | .breaks _ p => p
  | _ => 0
/-- a full one just where no spot breaks the rule -/
theorem toldFull {n : Nat} {g : Nat → Nat → Nat} (tri : Tri n g) : (isFl (toldOf n g) && !isNn (firstD n g)) = false := by
  unfold toldOf firstD
  cases h : firstBrk n g with
  | some s => rfl
  | none =>
    obtain ⟨s, l, e⟩ := fullEx tri h
    rw [e]
    rfl
theorem toldBreaks {n : Nat} {g : Nat → Nat → Nat} (tri : Tri n g) (hb : isFl (toldOf n g) = false) : firstD n g = .tuple [.int (rowOf (toldOf n g)), .int (placeOf (toldOf n g))] := by
  unfold toldOf firstD at *
  cases h : firstBrk n g with
  | some s => rfl
  | none =>
    obtain ⟨s, l, e⟩ := fullEx tri h
    rw [h, e] at hb
    cases hb
theorem pairOk (a b : Int) : okD 1 (.tuple [.int a, .int b]) := okT fun d hd => by
  rcases List.mem_cons.mp hd with rfl | hd
  · exact okI _ 0
  · rw [List.mem_singleton] at hd
    subst hd
    exact okI _ 0
end Dt

/-! Answers made by hand. -/
namespace Dt
open PySem L2 Evl PyProof.Rows
theorem kBB : kitB "bool" "bool" = some true := by decide +kernel
theorem turnSwap {a b c : Nat} (ha : Code a) (hb : Code b) (hc : Code c) : decide (turn3 a c b = 0) = decide (turn3 a b c = 0) := by
  rcases ha with rfl | rfl | rfl <;> rcases hb with rfl | rfl | rfl <;> rcases hc with rfl | rfl | rfl <;> decide +kernel
def P__law_says : List PyData → PyData → Prop := fun ds d => ∃ a b : Bool, ds = [.bool a, .bool b] ∧ d = .bool (decide (a = b))
def P__law_full : List PyData → PyData → Prop := fun ds d => ∃ (n : Nat) (g : Nat → Nat → Nat) (r p u : Int), Tri n g ∧ ds = [.list (triD n g), .int r, .int p, .int u] ∧ d = .bool (fullB n g r p u)
def P__law_brk : List PyData → PyData → Prop := fun ds d => ∃ (n : Nat) (g : Nat → Nat → Nat) (r p : Int), Tri n g ∧ ds = [.list (triD n g), .int r, .int p] ∧ d = .bool (brkB n g r p)
theorem AnsN.mut {c : Kls} {K : PySem.W.Frag} {H0 H : Hp} {x p : Addr} {a : Ans} {xs ys : List V} (h : AnsN c K H0 H x a) (hp : H p = some (.lst xs)) (h0 : H0 p ≠ none) (hn : ∀ l, (a = .ended l ∨ ∃ d, a = .out l d) → noLs l = true) : AnsN c K H0 (upd H p (.lst ys)) x a := by
  have nx : ∀ {o : HO}, H x = some o → (∀ zs, o ≠ .lst zs) → x ≠ p := fun e ne z => by
    rw [z, hp] at e
    cases e
    exact ne _ rfl
  cases a with
  | full r p u => obtain ⟨dx, h⟩ := h; exact ⟨dx, (upd_ne (nx h fun _ z => nomatch z)).trans h⟩
  | breaks r p => obtain ⟨dx, h⟩ := h; exact ⟨dx, (upd_ne (nx h fun _ z => nomatch z)).trans h⟩
  | ended l =>
    obtain ⟨dx, q, h, k1, zs, k2, k3⟩ := h
    have qp : q ≠ p := fun z => h0 (by rw [← z]; exact k1)
    exact ⟨dx, q, (upd_ne (nx h fun _ z => nomatch z)).trans h, k1, zs, (upd_ne qp).trans k2, dpsTups (tupsMut hp) k3 (hn l (.inl rfl))⟩
  | out l d =>
    obtain ⟨dx, q, h, k1, zs, k2, k3⟩ := h
    have qp : q ≠ p := fun z => h0 (by rw [← z]; exact k1)
    exact ⟨dx, q, (upd_ne (nx h fun _ z => nomatch z)).trans h, k1, zs, (upd_ne qp).trans k2, dpsTups (tupsMut hp) k3 (hn l (.inr ⟨d, rfl⟩))⟩
section
variable {c : Kls} {K : PySem.W.Frag} {σ : L2.St} {H H' : Hp} {t1 t2 te : TE} {ta : TA} {D : Ends} {tz : TS}
theorem qLst2 {i : Nat} {a1 a2 : Ans} (h1 : EvAn c K t1 σ H a1) (h2 : EvAn c K t2 σ H a2) (k : ∀ w x1 x2 H1, H w = none → Ex H H1 → H1 w = some (.lst [.ref x1, .ref x2]) → AnsN c K H H1 x1 a1 → AnsN c K H H1 x2 a2 → tz D (σ.set i (some (.ref w))) H1) :
    tSeq (tAsg (tLst (tCons t1 (tCons t2 tNil))) (gName i)) tz D σ H := h1 H (Ex.refl H) _ fun x1 H1 n1 e1 k1 => h2 H1 e1 _ fun x2 H2 n2 e2 k2 => ⟨by show 2 ≤ sizeLine; decide, fun w hw =>
  k w x1 x2 _ (fresh_back (e1.trans e2) hw) ((e1.trans e2).trans (Ex.new hw)) upd_same (k1.up (e2.trans (Ex.new hw))) ((k2.back e1).up (Ex.new hw))⟩
theorem edFullShowsA {n : Nat} {g : Nat → Nat → Nat} {r p u : Int} {E : XK} (tri : Tri n g) (h : EvAn c K te σ H (.full r p u)) (ha : EvAD K ta σ H [.list (triD n g)]) : EvD K (tMeth c.full "shows" (SpFull K c) [] E te ta) σ H (.bool (fullB n g r p u)) := edB fun H1 e Q q =>
  h H1 e _ fun x H2 hn b hx => by
    obtain ⟨dx, hx⟩ := hx
    exact ⟨x, dx, _, rfl, hx, noShows1, ha H2 (e.trans b) _ fun vs H3 k hd => by
      obtain ⟨v, rfl, h1⟩ := dps1 hd
      exact ⟨x, v, dx, n, g, r, p, u, rfl, tri, h1, k _ _ hx, fun H4 l => q H4 ((b.trans k).trans l)⟩⟩
end
def gD3 (r p : Nat) : Nat := if r = 0 then (if p = 0 then 97 else if p = 1 then 98 else 99) else if r = 1 then (if p = 0 then 99 else 97) else 98
theorem triD3 : Tri 3 gD3 := ⟨by decide, by decide, fun r p => by
  unfold gD3 Code
  repeat' split
  all_goals simp⟩
theorem dD3 : [PyData.str "abc", .str "ca", .str "b"] = triD 3 gD3 := by
  have e : (("abc" : Str), ("ca" : Str), ("b" : Str)) = (rowS 3 gD3 0, rowS 3 gD3 1, rowS 3 gD3 2) := by decide +kernel
  show [PyData.str "abc", .str "ca", .str "b"] = [.str (rowS 3 gD3 0), .str (rowS 3 gD3 1), .str (rowS 3 gD3 2)]
  have e1 := congrArg Prod.fst e
  have e2 := congrArg (fun z => z.2.1) e
  have e3 := congrArg (fun z => z.2.2) e
  simp only at e1 e2 e3
  rw [e1, e2, e3]
theorem bD3 : fullB 3 gD3 0 0 0 = true := by decide +kernel
theorem bA0 : fullB 2 gA 0 0 0 = false := by decide +kernel
theorem intsNoL (l : List Int) : noLs (l.map .int) = true := noLs_map fun _ _ => by rw [noL]
theorem intsOkZ (l : List Int) : okD 1 (.list (l.map .int)) := okL (okM fun i _ => okI i 0)
theorem smZ_noL (r p u : Int) : noL (smZ r p u) = true := by
  unfold smZ
  rw [noL, noLs, noL, noLs, noL, noLs, noL, noLs]
  rfl
end Dt
namespace Dt
open PySem L2 Evl PyProof.Rows
theorem qAppE {K : PySem.W.Frag} {σ : L2.St} {H : Hp} {te : TE} {D : Ends} {tz : TS} {i : Nat} {p : Addr} {xs : List V} {d : PyData} (hx : H p = some (.lst xs)) (hi : σ[i]? = some (some (.ref p))) (h : EvD K te σ H d) (hz : xs.length < 100000) (k : ∀ v H1, Ex H H1 → Dp K H1 v d → tz D σ (upd H1 p (.lst (xs ++ [v])))) :
    tSeq (tDrop (tBM K "list" rAppend (tVar i) (tCons te tNil))) tz D σ H :=
  ⟨.ref p, hi, .inl ⟨rfl, xs, sq_of hx⟩, h H (Ex.refl H) _ fun v H1 e hv => ⟨p, xs, v, rfl, rfl, e _ _ hx, sz_lt hz, k v H1 e hv⟩⟩
end Dt

/-! What is asked of any data. -/
namespace Dt
open PySem L2 Evl PyProof.Rows
def isStrD : PyData → Bool
  | .str _ => true
  | _ => false
def isLstD : PyData → Bool
  | .list _ => true
  | _ => false
def isTupD : PyData → Bool
  | .tuple _ => true
  | _ => false
def isNumD : PyData → Bool
  | .int _ => true
  | _ => false
def letB : PyData → Bool
  | .str x => decide (x = "a" ∨ x = "b" ∨ x = "c")
  | _ => false
def rowB (m : Int) : PyData → Bool
  | .str x => decide ((x.length : Int) = m) && x.cps.toList.all fun c => decide (c = 97 ∨ c = 98 ∨ c = 99)
  | _ => false
def trisB : PyData → Bool
  | .list xs => decide (2 ≤ xs.length) && (xs.mapIdx fun i d => rowB ((xs.length : Int) - (i : Nat)) d).all id
  | _ => false
/-- texts are short, lists too -/
def Short : PyData → Prop
  | .str x => x.length ≤ 100000
  | .list xs => xs.length ≤ 100000
  | _ => True
theorem kinds : (["NoneType", "bool", "int", "str", "list", "tuple", "dict"].all fun z => kitB z "str" == some (z == "str") && kitB z "list" == some (z == "list") && kitB z "tuple" == some (z == "tuple") && kitB z "int" == some (z == "int" || z == "bool") && kitB z "bool" == some (z == "bool")) = true := by decide +kernel
theorem tyIn (d : PyData) : tyD d ∈ ["NoneType", "bool", "int", "str", "list", "tuple", "dict"] := by cases d <;> simp [tyD]
theorem kAll (d : PyData) : kitB (tyD d) "str" = some (isStrD d) ∧ kitB (tyD d) "list" = some (isLstD d) ∧ kitB (tyD d) "tuple" = some (isTupD d) ∧ (∃ b, kitB (tyD d) "bool" = some b ∧ ∃ a, kitB (tyD d) "int" = some a ∧ (a && !b) = isNumD d) := by
  have h := List.all_eq_true.mp kinds _ (tyIn d)
  simp only [Bool.and_eq_true, beq_iff_eq] at h
  obtain ⟨⟨⟨⟨h1, h2⟩, h3⟩, h4⟩, h5⟩ := h
  refine ⟨h1.trans ?_, h2.trans ?_, h3.trans ?_, _, h5, _, h4, ?_⟩ <;> cases d <;> simp [tyD, isStrD, isLstD, isTupD, isNumD]
def X_is_number : List PyData → PyData → Prop := fun ds d => ∃ x, ds = [x] ∧ d = .bool (isNumD x)
def X_is_letter : List PyData → PyData → Prop := fun ds d => ∃ x, Short x ∧ ds = [x] ∧ d = .bool (letB x)
def X_is_row : List PyData → PyData → Prop := fun ds d => ∃ x m, Short x ∧ ds = [x, .int m] ∧ d = .bool (rowB m x)
def X_is_triangle : List PyData → PyData → Prop := fun ds d => ∃ x, Short x ∧ (∀ xs, x = .list xs → ∀ y ∈ xs, Short y) ∧ ds = [x] ∧ d = .bool (trisB x)
theorem inLets (x : Str) : inV (.str x) [.str "a", .str "b", .str "c"] = decide (x = "a" ∨ x = "b" ∨ x = "c") := by
  unfold inV
  rw [Bool.eq_iff_iff]
  simp [eqV]
  constructor
  · rintro (h | h | h)
    · exact .inl h.symm
    · exact .inr (.inl h.symm)
    · exact .inr (.inr h.symm)
  · rintro (h | h | h)
    · exact .inl h.symm
    · exact .inr (.inl h.symm)
    · exact .inr (.inr h.symm)
theorem oneLet (c : Nat) : decide ((⟨#[c]⟩ : Str) = "a" ∨ (⟨#[c]⟩ : Str) = "b" ∨ (⟨#[c]⟩ : Str) = "c") = decide (c = 97 ∨ c = 98 ∨ c = 99) := by
  have one : ∀ k, ((⟨#[c]⟩ : Str) = ⟨#[k]⟩) ↔ c = k := fun k => ⟨fun e => by
    have e1 := congrArg (fun y : Str => y.cps.toList) e
    injection e1, fun e => by rw [e]⟩
  rw [isA, isB, isC]
  refine decide_eq_decide.mpr ?_
  rw [one, one, one]
end Dt
namespace Dt
open PySem L2 Evl PyProof.Rows
def lenD : PyData → Int
  | .list xs => xs.length
  | _ => 0
end Dt
namespace Dt
open PySem L2 Evl PyProof.Rows
theorem mapIdxGetB {α β : Type} (z : α) (f : Nat → α → β) (l : List α) : l.mapIdx f = (List.range l.length).map fun i => f i (l.getD i z) := by
  refine List.ext_getElem? fun i => ?_
  rw [List.getElem?_mapIdx, List.getElem?_map]
  by_cases hi : i < l.length
  · rw [List.getElem?_range hi, List.getElem?_eq_getElem hi]
    show some (f i l[i]) = some (f i (l.getD i z))
    rw [List.getD_eq_getElem?_getD, List.getElem?_eq_getElem hi]
    rfl
  · rw [List.getElem?_eq_none (by omega), List.getElem?_eq_none (by rw [List.length_range]; omega)]
    rfl
end Dt
namespace Dt
open PySem L2 Evl PyProof.Rows
theorem trisL (xs : List PyData) : trisB (.list xs) = (decide (2 ≤ xs.length) && (xs.mapIdx fun i d => rowB ((xs.length : Int) - (i : Nat)) d).all id) := rfl
end Dt
namespace Dt
open PySem L2 Evl PyProof.Rows
def spotD (n : Nat) : PyData → PyData → Bool
  | .int r, .int p => spotB n r p
  | _, _ => false
theorem spotNo {n : Nat} {x y : PyData} (h : (!isNumD x || !isNumD y) = true) : spotD n x y = false := by
  cases x <;> cases y <;> first | rfl | (simp [isNumD] at h)
def smallD (n : Nat) : PyData → Bool
  | .tuple [.int r, .int p, .int u] => smB n r p u
  | _ => false
def X_is_spot : List PyData → PyData → Prop := fun ds d => ∃ n g x y, Tri n g ∧ ds = [.list (triD n g), x, y] ∧ d = .bool (spotD n x y)
def X_is_small : List PyData → PyData → Prop := fun ds d => ∃ n g x, Tri n g ∧ (∀ xs, x = .tuple xs → xs.length ≤ 100000) ∧ ds = [.list (triD n g), x] ∧ d = .bool (smallD n x)
end Dt

/-! What is refused: defs that raise, calls that never come back. -/
namespace Dt
open PySem L2 Evl PyProof.Rows

/-- nothing follows -/
def tDead : TS := fun _ _ _ => False
theorem pss_dead {X : Cx} {ss : List Stmt} : PSs X ss tDead := ⟨fun _ _ _ _ _ _ h => h.elim⟩

/-! values by a word -/
def EvV (te : TE) (σ : L2.St) (H : Hp) (R : V → Hp → Prop) : Prop := ∀ H1, Ex H H1 → ∀ Q : VK, (∀ v H2, Ex H1 H2 → R v H2 → Q v H2) → te σ H1 Q
def EvAV (ta : TA) (σ : L2.St) (H : Hp) (R : List V → Hp → Prop) : Prop := ∀ H1, Ex H H1 → ∀ Q : List V → Hp → Prop, (∀ vs H2, Ex H1 H2 → R vs H2 → Q vs H2) → ta σ H1 Q
def UpV (R : V → Hp → Prop) : Prop := ∀ v H H', Ex H H' → R v H → R v H'
section
variable {K : PySem.W.Frag} {σ : L2.St} {H H' : Hp} {ta tb te tx : TE} {tl : TA} {t u : TT} {d e : PyData} {D : Ends} {tz : TS} {R R' : V → Hp → Prop} {Rs : List V → Hp → Prop}
theorem EvV.up (a : Ex H H') (h : EvV te σ H R) : EvV te σ H' R := fun H1 b Q q => h H1 (a.trans b) Q q
theorem EvV.imp (h : EvV te σ H R) (k : ∀ v H1, R v H1 → R' v H1) : EvV te σ H R' := fun H1 b Q q => h H1 b Q fun v H2 e r => q v H2 e (k v H2 r)
theorem EvAV.imp {Rs' : List V → Hp → Prop} (h : EvAV tl σ H Rs) (k : ∀ v H1, Rs v H1 → Rs' v H1) : EvAV tl σ H Rs' := fun H1 b Q q => h H1 b Q fun v H2 e r => q v H2 e (k v H2 r)
theorem EvD.v (h : EvD K te σ H d) : EvV te σ H (fun v H1 => Dp K H1 v d) := h
theorem upD : UpV (fun v H => Dp K H v d) := fun _ _ _ e h => dpUp e h
theorem avNil : EvAV tNil σ H (fun vs _ => vs = []) := fun H1 _ _ q => q [] H1 (Ex.refl H1) rfl
theorem avCons (up : UpV R) (h : EvV te σ H R) (hr : EvAV tl σ H Rs) : EvAV (tCons te tl) σ H (fun vs H1 => ∃ v ws, vs = v :: ws ∧ R v H1 ∧ Rs ws H1) := fun H1 a _ q =>
  h H1 a _ fun v H2 b hv => hr H2 (a.trans b) _ fun vs H3 c hs => q _ H3 (b.trans c) ⟨v, vs, rfl, up _ _ _ c hv, hs⟩
def AllV (R : V → Hp → Prop) (n : Nat) : List V → Hp → Prop := fun vs H => vs.length = n ∧ ∀ v ∈ vs, R v H
theorem avAll0 : EvAV tNil σ H (AllV R 0) := avNil.imp fun vs H e => by
  subst e
  exact ⟨rfl, fun v h => nomatch h⟩
theorem avAll {n : Nat} (up : UpV R) (h : EvV te σ H R) (hr : EvAV tl σ H (AllV R n)) : EvAV (tCons te tl) σ H (AllV R (n + 1)) := (avCons up h hr).imp fun vs H ⟨v, ws, e, hv, hl, hs⟩ => by
  subst e
  refine ⟨by rw [List.length_cons, hl], fun x hx => ?_⟩
  rcases List.mem_cons.mp hx with rfl | hx
  · exact hv
  · exact hs x hx
theorem evVar {i : Nat} {v : V} (up : UpV R) (h : σ[i]? = some (some v)) (hv : R v H) : EvV (tVar i) σ H R := fun H1 a _ q => ⟨v, h, q v H1 (Ex.refl H1) (up _ _ _ a hv)⟩

/-! never back -/
def NvR (te : TE) (σ : L2.St) (H : Hp) : Prop := ∀ H1, Ex H H1 → ∀ Q : VK, te σ H1 Q
theorem qDropR (h : NvR te σ H) : tSeq (tDrop te) tz D σ H := h H (Ex.refl H) _
theorem sDropR (h : NvR te σ H) : tDrop te D σ H := h H (Ex.refl H) _
theorem sRetR (h : NvR te σ H) : tRet te D σ H := h H (Ex.refl H) _
theorem nvIf {b : Bool} (h : EvT t σ H b) (h1 : b = true → NvR ta σ H) (h2 : b = false → NvR tb σ H) : NvR (tIf t ta tb) σ H := fun H1 a Q => h H1 a _ fun H2 c => by
  cases b with
  | true => exact h1 rfl H2 (a.trans c) Q
  | false => exact h2 rfl H2 (a.trans c) Q

/-! promises of defs that may raise -/
def SpX (N : Sp) (R : Addr → List V → Hp → Prop) : Sp := fun vs H Q E => N vs H Q E ∨ ∃ C, R C vs H ∧ ∀ H', Ex H H' → E (.ref C) none H'
def SpN : Sp := fun _ _ _ _ => False
theorem spxLen {N : Sp} {R : Addr → List V → Hp → Prop} {n : Nat} (h1 : ∀ vs H Q E, N vs H Q E → vs.length = n) (h2 : ∀ C vs H, R C vs H → vs.length = n) : ∀ vs H Q E, SpX N R vs H Q E → vs.length = n := fun vs H Q E h => by
  rcases h with h | ⟨C, h, _⟩
  · exact h1 _ _ _ _ h
  · exact h2 _ _ _ h
theorem nvCall {N : Sp} {R : Addr → List V → Hp → Prop} {W : WX} {C : Addr} (h : EvAV tl σ H Rs) (hR : ∀ vs H1, Ex H H1 → Rs vs H1 → R C vs H1) (hW : ∀ H1, Ex H H1 → W (.ref C) none σ H1) : NvR (tCallS (SpX N R) (WE W) tl) σ H := fun H1 a Q =>
  h H1 a _ fun vs H2 b r => .inr ⟨C, hR vs H2 (a.trans b) r, fun H3 c => hW H3 ((a.trans b).trans c)⟩
theorem edCallS {P : List PyData → PyData → Prop} {R : Addr → List V → Hp → Prop} {E : L2.St → XK} {ds : List PyData} (h : EvAD K tl σ H ds) (hp : P ds d) : EvD K (tCallS (SpX (PrD K P) R) E tl) σ H d := fun H1 a Q q =>
  h H1 a _ fun vs H2 b hd => .inl ⟨ds, d, hd, hp, fun v H3 c hv => q v H3 (b.trans c) hv⟩
theorem enCallS {P : List PyData → List PyData → Prop} {R : Addr → List V → Hp → Prop} {E : L2.St → XK} {ds es : List PyData} (h : EvAD K tl σ H ds) (hp : P ds es) : EvN K (tCallS (SpX (PrN K P) R) E tl) σ H es := fun H1 a Q q =>
  h H1 a _ fun vs H2 b hd => .inl ⟨ds, es, hd, hp, fun p xs H3 h1 c h2 h3 => q p xs H3 (fresh_back b h1) (b.trans c) h2 h3⟩
end

/-! raise -/
def tRaise (C : Addr) (W : WX) : TS := fun _ σ H => W (.ref C) none σ H
def vErr : List Value := [.type "ValueError", .type "Exception", .type "BaseException", .type "object"]
structure XCl (K : PySem.W.Frag) (C CW : Addr) : Prop where
  ex : PySem.W.excIn K C vErr "ValueError.__new__" = true
  kp : PySem.W.keepIn K (.ref C) = true
  sb : PySem.W.subIn K (.ref C) (.type "BaseException") = some true
  ty : PySem.W.typeIn K (.ref C) = some (.type "type")
  wk : PySem.W.subIn K (.ref C) (.ref CW) = some true
  is : ExcC K C
  ve : PySem.W.kitOne K (.ref C) (.type "ValueError") = some true
section
variable {X : Cx} {C CW : Addr}
theorem ps_raiseC {W : WX} {x m : Str} {j : Nat} {p p2 pos pos' : Pos} (hc : X.calm = true) (tk : Takes X W) (c : XCl X.K C CW) (gC : X.mg x = some (.ref C)) (hg : Gl X x) (hdb : (x == ("__debug__" : Str)) = false := by decide) :
    PS X (.Raise (some (.Call (.Name x p) [.Constant (.str m) j p2] [] pos)) none pos') (tRaise C W) := ps_raise hc tk (pmk_own PySem.F.excBase_ValueError c.ex gC c.kp (raises_own c.sb c.ty) hg hdb)
/-! a def out of a list of them, called -/
structure HeldX (P : Program) (w : World) (K : PySem.W.Frag) (mg : Str → Option Value) (base : Heap) (k : Nat) (f : Addr) (sp : Sp) : Prop where
  ex : ∃ (fd : FuncData) (ps : List Str), FnOk P w K mg base (L2.CX P w) k f fd ps sp ∧ PySem.W.keepIn K (.ref f) = true ∧ Binds K fd ps []
def tCallF (fs : List Addr) (sp : Sp) (W : WX) (tf : TE) (t : TA) : TE := fun σ H Q => tf σ H fun y H1 => ∃ f, f ∈ fs ∧ y = .ref f ∧ t σ H1 fun vs H2 => sp vs H2 Q (WE W σ)
theorem pe_callF {fs : List Addr} {k : Nat} {sp : Sp} {W : WX} {fe e : Expr} {es : List Expr} {pos : Pos} {tf : TE} {t : TA} (A : ∀ f, f ∈ fs → HeldX X.prog X.w X.K X.mg X.base k f sp) (hr : Room k X.A) (tk : Takes X W) (hf : PE X fe tf) (ha : PA X (e :: es) t)
    (ht : eval (.Call fe (e :: es) [] pos) X.env = (do callWith pos (← eval fe X.env) [] (backTo pos (starEach (e :: es) X.env)) (backToKw pos (keywordEach [] X.env))) := by rfl)
    (he : starEach (e :: es) X.env = (false, eval e X.env) :: starEach es X.env := by rfl) (hpl : (backTo pos (starEach es X.env)).any (·.1) = false := by rfl) : PE X (.Call fe (e :: es) [] pos) (tCallF fs sp W tf t) := by
  refine ⟨fun pins s σ H Q I h => ?_⟩
  rw [ht]
  refine wpAny_bind (thn (hf.run pins s σ H _ I h) fun u s1 ⟨y, H1, I1, ry, f, hm, ey, q⟩ => ?_)
  subst ey
  obtain rfl : u = Value.ref f := ry
  obtain ⟨fd, ps, F, hk, hb⟩ := (A f hm).ex
  refine PySem.W.callWith_K (h₀ := X.base) I1.ok.mod.kin hk (thn (ha.run pos pins s1 σ H1 _ I1 q) fun us s2 ⟨vs, H2, I2, r, q2⟩ => ⟨I2.kIn, ?_⟩) he hpl
  exact run_fnS (E := WE W) F hr hb (passAt tk σ) I2 r q2
/-! isinstance of the error that a suite holds -/
def rIsX (K : PySem.W.Frag) (cls : Value) (d : Option Addr) (a : Addr) : List V → Hp → VK → Prop := fun xs H Q => ∃ D, cls = .ref D ∧ d = none ∧ ExcC K D ∧ rIsE K D a xs H Q
theorem call_isX {a : Addr} {oe : Obj} {cls : Value} {d : Option Addr} {pn : List (Addr × Obj)} (hz : Zc cls d oe) (hf : ∃ vs, oe.data = .fields vs) : CallR (X.suite a ((a, oe) :: pn)) (.builtin "isinstance") (rIsX X.K cls d a) := by
  intro pins s σ H xs us Q I r h
  obtain ⟨D, rfl, rfl, c, h⟩ := h
  exact call_isE c hz hf pins s σ H xs us Q I r h
end
section
variable {K : PySem.W.Frag} {σ : L2.St} {H : Hp} {a C D : Addr} {i : Nat} {b : Bool}
theorem edIsE (c : ExcC K D) (h : σ[i]? = some (some (.ref a))) (k : PySem.W.kitOne K (.ref D) (.ref C) = some b) : EvD K (tCB (rIsX K (.ref D) none a) (tCons (tVar i) (tCons (tC (.ref C)) tNil))) σ H (.bool b) := edB fun H1 e Q q =>
  ⟨_, h, D, rfl, rfl, c, .ref C, .ref C, b, rfl, fun _ r => r, k, q H1 (Ex.refl _)⟩
theorem edIsV (c : ExcC K D) (h : σ[i]? = some (some (.ref a))) (k : PySem.W.kitOne K (.ref D) (.type "ValueError") = some b) : EvD K (tCB (rIsX K (.ref D) none a) (tCons (tVar i) (tCons (tC (.ty "ValueError")) tNil))) σ H (.bool b) := edB fun H1 e Q q =>
  ⟨_, h, D, rfl, rfl, c, .ty "ValueError", .type "ValueError", b, rfl, fun _ r => r, k, q H1 (Ex.refl _)⟩
end

/-! triangles, any value -/
def okTr (x : PyData) : Prop := Short x ∧ ∀ xs, x = .list xs → ∀ y ∈ xs, Short y
def TriV (K : PySem.W.Frag) (b : Bool) : V → Hp → Prop := fun v H => (∃ x, Dp K H v x ∧ okTr x ∧ trisB x = b) ∨ (b = false ∧ ∃ a, v = .ref a ∧ H a = some (.dK []))
theorem triUp {K : PySem.W.Frag} {b : Bool} : UpV (TriV K b) := fun v H H' e h => by
  rcases h with ⟨x, h1, h2⟩ | ⟨h0, a, h1, h2⟩
  · exact .inl ⟨x, dpUp e h1, h2⟩
  · exact .inr ⟨h0, a, h1, e _ _ h2⟩
def SpTriV (K : PySem.W.Frag) : Sp := fun vs H Q _ => ∃ v b, vs = [v] ∧ TriV K b v H ∧ ∀ H', Ex H H' → Q (.bl b) H'
def NChk (K : PySem.W.Frag) : Sp := fun vs H Q _ => ∃ v, vs = [v] ∧ TriV K true v H ∧ ∀ H', Ex H H' → Q .non H'
/-- the first of those handed in is no triangle -/
def BadT (K : PySem.W.Frag) (C0 : Addr) (n : Nat) : Addr → List V → Hp → Prop := fun C vs H => C = C0 ∧ vs.length = n ∧ ∃ v ws, vs = v :: ws ∧ TriV K false v H
section
variable {K : PySem.W.Frag} {σ : L2.St} {H : Hp} {i : Nat} {v : V} {b : Bool} {E : XK} {te : TE}
theorem edTriV (h : EvV te σ H (TriV K b)) : EvD K (tCall (SpTriV K) [] E (tCons te tNil)) σ H (.bool b) := edB fun H1 e Q q =>
  h H1 e _ fun v H2 e2 hv => ⟨v, b, rfl, hv, fun H3 e3 => q H3 (e2.trans e3)⟩
theorem edChk {R : Addr → List V → Hp → Prop} {W : L2.St → XK} (h : EvV te σ H (TriV K true)) : EvD K (tCallS (SpX (NChk K) R) W (tCons te tNil)) σ H .none := edNn fun H1 e Q q =>
  h H1 e _ fun v H2 e2 hv => .inl ⟨v, rfl, hv, fun H3 e3 => q H3 (e2.trans e3)⟩
theorem triGood {n : Nat} {g : Nat → Nat → Nat} (tri : Tri n g) : okTr (.list (triD n g)) ∧ trisB (.list (triD n g)) = true := by
  have hi := tri.hi
  have lo := tri.lo
  refine ⟨⟨by show (triD n g).length ≤ 100000; rw [triLen]; omega, fun xs e y hy => ?_⟩, ?_⟩
  · cases e
    obtain ⟨r, hr, rfl⟩ := List.mem_map.mp hy
    show (rowS n g r).length ≤ 100000
    rw [rowLen]
    omega
  · rw [trisL, triLen, decide_eq_true lo, Bool.true_and, List.all_eq_true]
    intro x hx
    obtain ⟨i, hi', rfl⟩ := List.mem_mapIdx.mp hx
    have hi2 : i < n := by rw [triLen] at hi'; exact hi'
    have e : (triD n g)[i] = .str (rowS n g i) := by
      have e2 : (triD n g)[i]? = some (.str (rowS n g i)) := by
        unfold triD
        rw [List.getElem?_map, List.getElem?_range hi2]
        rfl
      exact Option.some.inj ((List.getElem?_eq_getElem hi').symm.trans e2)
    rw [e]
    show (decide (((rowS n g i).length : Int) = (n : Int) - (i : Nat)) && (rowS n g i).cps.toList.all fun c => decide (c = 97 ∨ c = 98 ∨ c = 99)) = true
    rw [rowLen, rowCps, decide_eq_true (by omega), Bool.true_and, List.all_eq_true]
    intro c hc
    obtain ⟨p, _, rfl⟩ := List.mem_map.mp hc
    exact decide_eq_true (tri.ok _ _)
theorem triV_of {n : Nat} {g : Nat → Nat → Nat} (tri : Tri n g) (h : Dp K H v (.list (triD n g))) : TriV K true v H := .inl ⟨_, h, (triGood tri).1, (triGood tri).2⟩
/-- a datum that is none -/
def shB : PyData → Bool
  | .str x => decide (x.length ≤ 100000)
  | .list xs => decide (xs.length ≤ 100000)
  | _ => true
def badB : PyData → Bool
  | .list xs => decide (xs.length ≤ 100000) && xs.all shB && !trisB (.list xs)
  | .str x => decide (x.length ≤ 100000)
  | _ => true
theorem shOf {x : PyData} (h : shB x = true) : Short x := by
  cases x with
  | str y => exact of_decide_eq_true (p := y.length ≤ 100000) h
  | list y => exact of_decide_eq_true (p := y.length ≤ 100000) h
  | _ => trivial
theorem badOf {x : PyData} (h : badB x = true) : okTr x ∧ trisB x = false := by
  cases x with
  | list xs =>
    unfold badB at h
    simp only [Bool.and_eq_true, Bool.not_eq_true'] at h
    refine ⟨⟨of_decide_eq_true (p := xs.length ≤ 100000) h.1.1, fun ys e y hy => ?_⟩, h.2⟩
    cases e
    exact shOf (List.all_eq_true.mp h.1.2 y hy)
  | str y => exact ⟨⟨of_decide_eq_true (p := y.length ≤ 100000) h, fun _ e => nomatch e⟩, rfl⟩
  | _ => exact ⟨⟨trivial, fun _ e => nomatch e⟩, rfl⟩
theorem evBad {d : PyData} (h : EvD K te σ H d) (hb : badB d = true) : EvV te σ H (TriV K false) := EvV.imp h fun v H1 hv => .inl ⟨d, hv, (badOf hb).1, (badOf hb).2⟩
theorem evDct : EvV tDNewK σ H (TriV K false) := fun H1 e Q q p hp => q _ _ (Ex.new hp) (.inr ⟨rfl, p, rfl, upd_same⟩)
end
end Dt
namespace Dt
open PySem L2 Evl PyProof.Rows
structure WCl (K : PySem.W.Frag) (C : Addr) : Prop where
  sb : PySem.W.subIn K (.ref C) (.type "BaseException") = some true
  ty : PySem.W.typeIn K (.ref C) = some (.type "type")
  hd : PySem.W.hasDictIn K C = true
theorem exmW {K : PySem.W.Frag} {C CW : Addr} (x : XCl K C CW) (w : WCl K CW) : PySem.W.exmOne K (.ref C) (.ref CW) = some true := PySem.W.exm_ref w.sb w.hd w.ty x.wk
theorem boot_ValueError : bootBuiltins "ValueError" = some (.type "ValueError") := by decide +kernel
/-! a text so many times -/
def repS (x : Str) (n : Nat) : Str := ⟨(List.replicate n x.cps).foldl (· ++ ·) #[]⟩
def rRepS : R2 := fun x y H Q => ∃ i k, x = .str i ∧ y = .int k ∧ 2 ≤ k ∧ k ≤ 1000 ∧ i.length ≤ 1000 ∧ i.length ≠ 0 ∧ (repS i k.toNat).length ≤ 100000 ∧ Q (.str (repS i k.toNat)) H
theorem op_mulS {X : Cx} : OpR X (binaryOp .Mult) rRepS := by
  intro pins s σ H x y v u Q I rx ry h
  obtain ⟨i, k, rfl, rfl, h2, hk, hl, h0, hr, q⟩ := h
  obtain ⟨t, rfl⟩ := rx
  obtain ⟨t', rfl⟩ := ry
  have n1 : ¬ k < 1 := by omega
  have n2 : (k == 1 || i.length == 0) = false := by
    have e1 : (k == 1) = false := by
      rw [beq_eq_false_iff_ne]
      omega
    have e2 : (i.length == 0) = false := by
      rw [beq_eq_false_iff_ne]
      exact h0
    rw [e1, e2]
    rfl
  have sm : i.length * k.toNat ≤ 1000 * 1000 := Nat.mul_le_mul hl (by omega)
  refine PySem.P.mul_str ?_ (fun _ _ => ?_) (fun _ _ => ?_) ?_
  · have a1 : ¬ k < -(2 ^ 63 : Int) := by omega
    have a2 : ¬ k ≥ 2 ^ 63 := by omega
    rw [decide_eq_false a1, decide_eq_false a2]
    rfl
  · have b1 : (1000 : Int) ≤ (2 ^ 63 - 1) / k := (Int.le_ediv_iff_mul_le (by omega)).mpr (by omega)
    omega
  · refine decide_eq_false ?_
    have z : sizeLine = 16777216 := rfl
    omega
  · rw [if_neg n1, n2]
    exact ⟨Nat.le_trans hr (by decide), .str _, H, I.tok _, ⟨_, rfl⟩, q⟩
/-! who is refused -/
theorem kDL : kitB "dict" "list" = some false := by decide +kernel
def okS2 (x : PyData) : Prop := ∀ xs, x = .tuple xs → xs.length ≤ 100000
def RSmall (K : PySem.W.Frag) (C0 : Addr) : Addr → List V → Hp → Prop := fun C vs H => C = C0 ∧ ∃ n g x, Tri n g ∧ okS2 x ∧ DpAll K H vs [.list (triD n g), x] ∧ smallD n x = false
def RFlat (K : PySem.W.Frag) (C0 : Addr) : Addr → List V → Hp → Prop := fun C vs H => C = C0 ∧ ∃ n g s, Tri n g ∧ isSm n s ∧ DpAll K H vs [.list (triD n g), smD s] ∧ trn g s = 0
def RDoor (K : PySem.W.Frag) (C0 : Addr) : Addr → List V → Hp → Prop := fun C vs H => C = C0 ∧ ∃ n g x, Tri n g ∧ DpAll K H vs [.list (triD n g), x] ∧ ∀ i : Int, x = .int i → ∀ j ∈ doorsOf (pairs (codes n g)), (j : Int) ≠ i
def RSpot (K : PySem.W.Frag) (C0 : Addr) : Addr → List V → Hp → Prop := fun C vs H => C = C0 ∧ ∃ n g x y z, Tri n g ∧ Short z ∧ DpAll K H vs [.list (triD n g), x, y, z] ∧ (spotD n x y = true → letB z = false)
def ROr (R1 R2 : Addr → List V → Hp → Prop) : Addr → List V → Hp → Prop := fun C vs H => R1 C vs H ∨ R2 C vs H
theorem lenOr {R1 R2 : Addr → List V → Hp → Prop} {n : Nat} (h1 : ∀ C vs H, R1 C vs H → vs.length = n) (h2 : ∀ C vs H, R2 C vs H → vs.length = n) : ∀ C vs H, ROr R1 R2 C vs H → vs.length = n := fun C vs H h => h.elim (h1 C vs H) (h2 C vs H)
theorem lenBad {K : PySem.W.Frag} {C0 : Addr} {n : Nat} : ∀ C vs H, BadT K C0 n C vs H → vs.length = n := fun C vs H h => h.2.1
theorem lenSmall {K : PySem.W.Frag} {C0 : Addr} : ∀ C vs H, RSmall K C0 C vs H → vs.length = 2 := fun C vs H ⟨_, n, g, x, _, _, h, _⟩ => dpsLen h
theorem lenFlat {K : PySem.W.Frag} {C0 : Addr} : ∀ C vs H, RFlat K C0 C vs H → vs.length = 2 := fun C vs H ⟨_, n, g, x, _, _, h, _⟩ => dpsLen h
theorem lenDoor {K : PySem.W.Frag} {C0 : Addr} : ∀ C vs H, RDoor K C0 C vs H → vs.length = 2 := fun C vs H ⟨_, n, g, x, _, h, _⟩ => dpsLen h
theorem lenSpot {K : PySem.W.Frag} {C0 : Addr} : ∀ C vs H, RSpot K C0 C vs H → vs.length = 4 := fun C vs H ⟨_, n, g, x, y, z, _, _, h, _⟩ => dpsLen h
theorem lenN {n : Nat} : ∀ vs H Q E, SpN vs H Q E → vs.length = n := fun _ _ _ _ h => h.elim
theorem lenChk {K : PySem.W.Frag} : ∀ vs H Q E, NChk K vs H Q E → vs.length = 1 := fun vs H Q E ⟨v, h, _⟩ => by rw [h]; rfl
section
variable {K : PySem.W.Frag} {σ : L2.St} {H : Hp} {te tf : TE} {N : Sp} {W : WX} {C0 : Addr}
theorem nvChkT (h : EvV te σ H (TriV K false)) (hW : ∀ H1, Ex H H1 → W (.ref C0) none σ H1) : NvR (tCallS (SpX N (BadT K C0 1)) (WE W) (tCons te tNil)) σ H :=
  nvCall (C := C0) (avCons triUp h avNil) (fun vs H1 _ ⟨v, ws, e, hv, e2⟩ => by
    subst e e2
    exact ⟨rfl, rfl, v, [], rfl, hv⟩) hW
theorem nvBad2 {R : Addr → List V → Hp → Prop} {d : PyData} (h : EvV te σ H (TriV K false)) (hf : EvD K tf σ H d) (hW : ∀ H1, Ex H H1 → W (.ref C0) none σ H1) : NvR (tCallS (SpX N (ROr (BadT K C0 2) R)) (WE W) (tCons te (tCons tf tNil))) σ H :=
  nvCall (C := C0) (avCons triUp h (avCons upD hf avNil)) (fun vs H1 _ ⟨v, ws, e, hv, w, us, e2, _, e3⟩ => by
    subst e e2 e3
    exact .inl ⟨rfl, rfl, v, _, rfl, hv⟩) hW
theorem nvD {R : Addr → List V → Hp → Prop} {ta : TA} {C : Addr} {ds : List PyData} (h : EvAD K ta σ H ds) (hR : ∀ vs H1, DpAll K H1 vs ds → R C vs H1) (hW : ∀ H1, Ex H H1 → W (.ref C) none σ H1) : NvR (tCallS (SpX N R) (WE W) ta) σ H :=
  nvCall (C := C) (Rs := fun vs H1 => DpAll K H1 vs ds) h (fun vs H1 _ r => hR vs H1 r) hW
end
end Dt
namespace Dt
open PySem L2 Evl PyProof.Rows
/-! small triangles, any value -/
def lenT : PyData → Int
  | .tuple xs => xs.length
  | _ => 0
def upOk : PyData → Bool
  | .int u => decide (u = 0 ∨ u = 1)
  | _ => false
theorem smallNo {n : Nat} {x : PyData} (h : (!isTupD x || !decide (lenT x = 3)) = true) : smallD n x = false := by
  cases x with
  | tuple xs =>
    have h3 : ¬ (xs.length : Int) = 3 := of_decide_eq_false ((Bool.not_eq_true' _).mp (show (!decide ((xs.length : Int) = 3)) = true from h))
    match xs, h3 with
    | [], _ => rfl
    | [a], _ => simp [smallD]
    | [a, b], _ => simp [smallD]
    | [a, b, c], h3 => exact absurd rfl h3
    | a :: b :: c :: d :: l, _ => simp [smallD]
  | _ => rfl
theorem tup3Of {x : PyData} (h : (!isTupD x || !decide (lenT x = 3)) = false) : ∃ a b c, x = .tuple [a, b, c] := by
  cases x with
  | tuple xs =>
    have h3 : (xs.length : Int) = 3 := of_decide_eq_true ((Bool.not_eq_false' _).mp (show (!decide ((xs.length : Int) = 3)) = false from h))
    match xs, h3 with
    | [a, b, c], _ => exact ⟨a, b, c, rfl⟩
    | [], h3 => cases h3
    | [a], h3 => cases h3
    | [a, b], h3 => cases h3
    | a :: b :: c :: d :: l, h3 => simp at h3; omega
  | _ => cases h
theorem orF {a b : Bool} (h : (!a || !b) = false) : (!a) = false ∧ b = true := by
  cases a <;> cases b <;> simp_all
theorem numI {x : PyData} (h : isNumD x = true) : ∃ i, x = .int i := by
  cases x <;> first | exact ⟨_, rfl⟩ | cases h
theorem num3Of {a b c : PyData} (h : (!([a, b, c].map isNumD).all id) = false) : ∃ r p u, a = .int r ∧ b = .int p ∧ c = .int u := by
  simp at h
  obtain ⟨h1, h2, h3⟩ := h
  obtain ⟨r, rfl⟩ := numI h1
  obtain ⟨p, rfl⟩ := numI h2
  obtain ⟨u, rfl⟩ := numI h3
  exact ⟨r, p, u, rfl, rfl, rfl⟩
theorem smallNo2 {n : Nat} {a b c : PyData} (h : (!([a, b, c].map isNumD).all id || !upOk c) = true) : smallD n (.tuple [a, b, c]) = false := by
  cases e : smallD n (.tuple [a, b, c]) with
  | false => rfl
  | true =>
    have hh : ∃ r p u, a = .int r ∧ b = .int p ∧ c = .int u := by
      cases a <;> cases b <;> cases c <;> first | exact ⟨_, _, _, rfl, rfl, rfl⟩ | (simp [smallD] at e)
    obtain ⟨r, p, u, rfl, rfl, rfl⟩ := hh
    have e : smB n r p u = true := e
    have e2 := of_decide_eq_true e
    have hu : u = 0 ∨ u = 1 := by omega
    simp [isNumD, upOk, hu] at h
def P_chkSmall : List PyData → PyData → Prop := fun ds d => ∃ n g x, Tri n g ∧ (okS2 x ∧ smallD n x = true) ∧ ds = [.list (triD n g), x] ∧ d = .none
end Dt
namespace Dt
open PySem L2 Evl PyProof.Rows
theorem notInI {i : Int} {l : List Nat} (h : ∀ j ∈ l, (j : Int) ≠ i) : inV (.int i) (l.map fun j => V.int (j : Nat)) = false := by
  unfold inV
  rw [List.any_map, List.any_eq_false]
  intro j hj
  show ¬ eqV (V.int (j : Nat)) (V.int i) = true
  unfold eqV
  have e := h j hj
  simpa using e
end Dt
namespace Dt
open PySem L2 Evl PyProof.Rows
theorem smGood {n r p u : Nat} (h : isSm n (r, p, u)) : okS2 (smD (r, p, u)) ∧ smallD n (smD (r, p, u)) = true := ⟨fun xs e => by
  cases e
  exact Nat.le_of_ble_eq_true rfl, smBOf h⟩
end Dt
namespace Dt
open PySem L2 Evl PyProof.Rows
theorem oneShort (c : Nat) : Short (.str ⟨#[c]⟩) := Nat.le_of_ble_eq_true rfl
theorem letGood {c : Nat} (h : Code c) : letB (.str ⟨#[c]⟩) = true := by
  show decide _ = true
  rw [oneLet]
  exact decide_eq_true h
end Dt

/-! Lists of values by a word; what is asked otherwise. -/
namespace Dt
open PySem L2 Evl PyProof.Rows
/-- a new list, all of whose values are of a word ahead of it -/
def EvLV (te : TE) (σ : L2.St) (H : Hp) (R : V → Hp → Prop) (n : Nat) : Prop := ∀ H1, Ex H H1 → ∀ Q : VK, (∀ p xs H2, H2 p = none → Ex H1 H2 → AllV R n xs H2 → Q (.ref p) (upd H2 p (.lst xs))) → te σ H1 Q
section
variable {K : PySem.W.Frag} {σ : L2.St} {H H' : Hp} {ta tb te tf : TE} {tl : TA} {t : TT} {d e : PyData} {D : Ends} {tz : TS} {R : V → Hp → Prop} {n m : Nat}
theorem allUp {xs : List V} (up : UpV R) (e : Ex H H') (h : AllV R n xs H) : AllV R n xs H' := ⟨h.1, fun v hv => up _ _ _ e (h.2 v hv)⟩
theorem allApp {xs ys : List V} (h : AllV R n xs H) (k : AllV R m ys H) : AllV R (n + m) (xs ++ ys) H := ⟨by rw [List.length_append, h.1, k.1], fun v hv => by
  rcases List.mem_append.mp hv with hv | hv
  · exact h.2 v hv
  · exact k.2 v hv⟩
theorem elvLst (h : EvAV tl σ H (AllV R n)) (hn : n ≤ 100000) : EvLV (tLst tl) σ H R n := fun H1 a Q q =>
  h H1 a _ fun vs H2 b hv => ⟨sz_of (by rw [hv.1]; exact hn), fun p hp => q p vs H2 hp b hv⟩
theorem elvCat {i : Nat} {p : Addr} {xs : List V} (up : UpV R) (hi : σ[i]? = some (some (.ref p))) (hp : H p = some (.lst xs)) (hx : AllV R n xs H) (h : EvLV te σ H R m) (hs : n + m ≤ 100000) : EvLV (tOp rCat (tVar i) te) σ H R (n + m) := fun H1 a Q q =>
  ⟨_, hi, h H1 a _ fun p' ys H2 hp' b hy => by
    have e2 : Ex H2 (upd H2 p' (.lst ys)) := Ex.new hp'
    refine ⟨p, p', xs, ys, rfl, rfl, e2 _ _ (b _ _ (a _ _ hp)), upd_same, sz_of (by rw [hx.1, hy.1]; exact hs), fun l hl => q l _ _ hl (b.trans e2) (allApp (allUp up ((a.trans b).trans e2) hx) (allUp up e2 hy))⟩⟩
theorem qAsgLV {i : Nat} (h : EvLV te σ H R n) (k : ∀ p xs H2, H2 p = none → Ex H H2 → AllV R n xs H2 → tz D (σ.set i (some (.ref p))) (upd H2 p (.lst xs))) : tSeq (tAsg te (gName i)) tz D σ H := h H (Ex.refl H) _ fun p xs H2 hp e hx => k p xs H2 hp e hx
theorem qAsgV {i : Nat} (h : EvV te σ H R) (k : ∀ v H1, Ex H H1 → R v H1 → tz D (σ.set i (some v)) H1) : tSeq (tAsg te (gName i)) tz D σ H := h H (Ex.refl H) _ fun v H1 e hv => k v H1 e hv
/-- an item of it -/
theorem evIxV {i : Nat} {p : Addr} {xs : List V} {k : Int} (up : UpV R) (hi : σ[i]? = some (some (.ref p))) (hp : H p = some (.lst xs)) (hx : AllV R n xs H) (hk : EvD K te σ H (.int k)) (h0 : 0 ≤ k) (h1 : k < (n : Int)) : EvV (tOp (rIxL K) (tVar i) te) σ H R := fun H1 a Q q =>
  ⟨_, hi, hk H1 a _ fun y H2 b hy => by
    have e := dpInt hy
    subst e
    obtain ⟨j, rfl⟩ : ∃ j : Nat, k = j := ⟨k.toNat, by omega⟩
    have hj : j < xs.length := by rw [hx.1]; omega
    exact ⟨p, xs, j, xs[j], rfl, rfl, sq_of (b _ _ (a _ _ hp)), atNat (List.getElem?_eq_getElem hj), q _ H2 b (up _ _ _ (a.trans b) (hx.2 _ (List.getElem_mem hj)))⟩⟩
/-- a list twice -/
theorem enTwice {ds : List PyData} (h : EvN K te σ H ds) (hn : ds.length ≤ 1000) : EvN K (tOp rRep te (tC (.int 2))) σ H (ds ++ ds) := fun H1 a Q q =>
  h H1 a _ fun p xs H2 hp b h2 hd => by
    have hl := dpsLen hd
    refine ⟨p, 2, xs, rfl, rfl, h2, by decide, by decide, sz_of (by show xs.length * 2 ≤ 100000; omega), fun l hlz => ?_⟩
    have e : (List.replicate (2 : Int).toNat xs).flatten = xs ++ xs := by
      show (List.replicate 2 xs).flatten = xs ++ xs
      rw [List.replicate_succ, List.replicate_succ, List.replicate_zero, List.flatten_cons, List.flatten_cons, List.flatten_nil, List.append_nil]
    rw [e]
    have hd2 := dpsUp (Ex.new (o := .lst (xs ++ xs)) hlz) hd
    exact q l _ _ (fresh_back b hlz) (b.trans (Ex.new hlz)) upd_same (dpsApp hd2 hd2)
theorem edRepS {x : Str} {k : Int} (h : EvD K te σ H (.str x)) (hk : EvD K tf σ H (.int k)) (h2 : 2 ≤ k) (h3 : k ≤ 1000) (hx : x.length ≤ 1000) (h0 : x.length ≠ 0) (hr : (repS x k.toNat).length ≤ 100000) : EvD K (tOp rRepS te tf) σ H (.str (repS x k.toNat)) := edS fun H1 a Q q =>
  h H1 a _ fun v H2 b hv => hk H2 (a.trans b) _ fun w H3 c hw => ⟨x, k, dpStr hv, dpInt hw, h2, h3, hx, h0, hr, q H3 (b.trans c)⟩
/-- a def out of a list -/
theorem evPick {fs : List Addr} {tl : TA} {k : Int} (hl : ∀ (σ : L2.St) (H1 : Hp) (Q : List V → Hp → Prop), Q (fs.map V.ref) H1 → tl σ H1 Q) (hs : fs.length ≤ 1000) (hk : EvD K te σ H (.int k)) (h0 : 0 ≤ k) (h1 : k < (fs.length : Int)) : EvV (tOp (rIxL K) (tLst tl) te) σ H (fun y _ => ∃ f, f ∈ fs ∧ y = .ref f) := fun H1 a Q q =>
  hl σ H1 _ ⟨sz_of (by rw [List.length_map]; omega), fun p hp => hk _ (a.trans (Ex.new hp)) _ fun y H2 b hy => by
    have e := dpInt hy
    subst e
    obtain ⟨j, rfl⟩ : ∃ j : Nat, k = j := ⟨k.toNat, by omega⟩
    have hj : j < fs.length := by omega
    refine ⟨p, fs.map V.ref, j, .ref fs[j], rfl, rfl, sq_of (b _ _ upd_same), atNat ?_, q _ H2 ((Ex.new hp).trans b) ⟨fs[j], List.getElem_mem hj, rfl⟩⟩
    rw [List.getElem?_map, List.getElem?_eq_getElem hj]
    rfl⟩
theorem nvCallF {fs : List Addr} {N : Sp} {Rs : List V → Hp → Prop} {Rr : Addr → List V → Hp → Prop} {W : WX} {C : Addr} (hf : EvV tf σ H (fun y _ => ∃ f, f ∈ fs ∧ y = .ref f)) (h : EvAV tl σ H Rs) (hR : ∀ vs H1, Rs vs H1 → Rr C vs H1) (hW : ∀ H1, Ex H H1 → W (.ref C) none σ H1) : NvR (tCallF fs (SpX N Rr) W tf tl) σ H := fun H1 a Q =>
  hf H1 a _ fun y H2 b ⟨f, hm, e⟩ => ⟨f, hm, e, h H2 (a.trans b) _ fun vs H3 c r => .inr ⟨C, hR vs H3 r, fun H4 k => hW H4 (((a.trans b).trans c).trans k)⟩⟩
end
def AskT (C0 : Addr) : Addr → List V → Hp → Prop := fun C vs H => C = C0 ∧ ∃ i j : Int, 0 ≤ i ∧ 0 ≤ j ∧ j < 1000 ∧ vs = [.int i, .int j]
def AskO (CT CS CD CP : Addr) : Addr → List V → Hp → Prop := fun C vs H => ∃ k i j : Int, 2 ≤ k ∧ k < 6 ∧ 0 ≤ i ∧ 0 ≤ j ∧ j < 1000 ∧ vs = [.int k, .int i, .int j] ∧ C = (if k = 2 then CS else if k = 3 then CD else if k = 4 then CP else if i / 7 % 2 = 0 then CP else CT)
theorem lenAskT {C0 : Addr} : ∀ C vs H, AskT C0 C vs H → vs.length = 2 := fun C vs H ⟨_, i, j, _, _, _, h⟩ => by rw [h]; rfl
theorem lenAskO {a b c d : Addr} : ∀ C vs H, AskO a b c d C vs H → vs.length = 3 := fun C vs H ⟨k, i, j, _, _, _, _, _, h, _⟩ => by rw [h]; rfl
theorem badRep {k : Int} (h0 : 2 ≤ k) (h1 : k ≤ 10) : badB (.list ([.str (repS "a" k.toNat)] ++ [.str (repS "a" k.toNat)])) = true ∧ (repS "a" k.toNat).length ≤ 100000 := by
  obtain ⟨n, rfl⟩ : ∃ n : Nat, k = n := ⟨k.toNat, by omega⟩
  have hn : n = 2 ∨ n = 3 ∨ n = 4 ∨ n = 5 ∨ n = 6 ∨ n = 7 ∨ n = 8 ∨ n = 9 ∨ n = 10 := by omega
  rcases hn with rfl | rfl | rfl | rfl | rfl | rfl | rfl | rfl | rfl <;> exact ⟨by decide +kernel, by decide +kernel⟩
end Dt
namespace Dt
open PySem L2 Evl PyProof.Rows
/-! triangles that are written -/
def gOf (rows : List (List Nat)) (r p : Nat) : Nat := (rows.getD r []).getD p 97
theorem triOf {n : Nat} {rows : List (List Nat)} (h : (rows.all fun r => r.all fun c => decide (c = 97 ∨ c = 98 ∨ c = 99)) = true) (lo : 2 ≤ n) (hi : n ≤ 100) : Tri n (gOf rows) := ⟨lo, hi, fun r p => by
  show Code ((rows.getD r []).getD p 97)
  rw [List.all_eq_true] at h
  have one : ∀ l : List Nat, (∀ c ∈ l, Code c) → Code (l.getD p 97) := fun l hl => by
    rw [List.getD_eq_getElem?_getD]
    cases e : l[p]? with
    | none => exact .inl rfl
    | some c => exact hl c (List.mem_of_getElem? e)
  refine one _ fun c hc => ?_
  rw [List.getD_eq_getElem?_getD] at hc
  cases e : rows[r]? with
  | none => rw [e] at hc; cases hc
  | some l =>
    rw [e] at hc
    exact of_decide_eq_true (List.all_eq_true.mp (h l (List.mem_of_getElem? e)) c hc)⟩
def t4 : List (List Nat) := [[97, 98, 99, 97], [98, 99, 97], [99, 98], [97]]
def t3 : List (List Nat) := [[97, 97, 98], [97, 98], [99]]
def t2 : List (List Nat) := [[97, 97], [97]]
def tA : List (List Nat) := [[97, 98], [99]]
def tB : List (List Nat) := [[97, 98], [97]]
theorem t4Is : [PyData.str "abca", .str "bca", .str "cb", .str "a"] = triD 4 (gOf t4) := by
  rw [show ("abca" : Str) = ⟨#[97, 98, 99, 97]⟩ by decide +kernel, show ("bca" : Str) = ⟨#[98, 99, 97]⟩ by decide +kernel, show ("cb" : Str) = ⟨#[99, 98]⟩ by decide +kernel, show ("a" : Str) = ⟨#[97]⟩ by decide +kernel]
  rfl
theorem t3Is : [PyData.str "aab", .str "ab", .str "c"] = triD 3 (gOf t3) := by
  rw [show ("aab" : Str) = ⟨#[97, 97, 98]⟩ by decide +kernel, show ("ab" : Str) = ⟨#[97, 98]⟩ by decide +kernel, show ("c" : Str) = ⟨#[99]⟩ by decide +kernel]
  rfl
theorem t2Is : [PyData.str "aa", .str "a"] = triD 2 (gOf t2) := by
  rw [show ("aa" : Str) = ⟨#[97, 97]⟩ by decide +kernel, show ("a" : Str) = ⟨#[97]⟩ by decide +kernel]
  rfl
theorem tAIs : [PyData.str "ab", .str "c"] = triD 2 (gOf tA) := by
  rw [show ("ab" : Str) = ⟨#[97, 98]⟩ by decide +kernel, show ("c" : Str) = ⟨#[99]⟩ by decide +kernel]
  rfl
theorem tBIs : [PyData.str "ab", .str "a"] = triD 2 (gOf tB) := by
  rw [show ("ab" : Str) = ⟨#[97, 98]⟩ by decide +kernel, show ("a" : Str) = ⟨#[97]⟩ by decide +kernel]
  rfl
/-! small triangles that are none -/
def BadS (K : PySem.W.Frag) (n : Nat) : V → Hp → Prop := fun v H => ∃ x, Dp K H v x ∧ okS2 x ∧ smallD n x = false
theorem badSUp {K : PySem.W.Frag} {n : Nat} : UpV (BadS K n) := fun v H H' e ⟨x, h, k⟩ => ⟨x, dpUp e h, k⟩
theorem okTup {xs : List PyData} (h : xs.length ≤ 100000) : okS2 (.tuple xs) := fun ys e => by
  cases e
  exact h
theorem okNo {x : PyData} (h : isTupD x = false := by rfl) : okS2 x := fun ys e => by
  subst e
  cases h
theorem evBadS {K : PySem.W.Frag} {σ : L2.St} {H : Hp} {te : TE} {d : PyData} {n : Nat} (h : EvD K te σ H d) (h1 : okS2 d) (h2 : smallD n d = false) : EvV te σ H (BadS K n) := EvV.imp h fun v H1 hv => ⟨d, hv, h1, h2⟩
end Dt
namespace Dt
open PySem L2 Evl PyProof.Rows
section
variable {K : PySem.W.Frag} {σ : L2.St} {H : Hp} {ta te : TE} {tl : TA} {R : V → Hp → Prop} {n : Nat} {D : Ends} {tz : TS}
/-- an item of a list that was just made -/
theorem evIxL {k : Int} (up : UpV R) (ha : EvLV ta σ H R n) (hk : EvD K te σ H (.int k)) (h0 : 0 ≤ k) (h1 : k < (n : Int)) : EvV (tOp (rIxL K) ta te) σ H R := fun H1 a Q q =>
  ha H1 a _ fun p xs H2 hp b hx => by
    have e2 : Ex H2 (upd H2 p (.lst xs)) := Ex.new hp
    refine hk _ ((a.trans b).trans e2) _ fun y H3 c hy => ?_
    have e := dpInt hy
    subst e
    obtain ⟨j, rfl⟩ : ∃ j : Nat, k = j := ⟨k.toNat, by omega⟩
    have hj : j < xs.length := by rw [hx.1]; omega
    exact ⟨p, xs, j, xs[j], rfl, rfl, sq_of (c _ _ upd_same), atNat (List.getElem?_eq_getElem hj), q _ H3 ((b.trans e2).trans c) (up _ _ _ (e2.trans c) (hx.2 _ (List.getElem_mem hj)))⟩
/-- pairs that tell no spot -/
def BadP (K : PySem.W.Frag) (n : Nat) : V → Hp → Prop := fun v H => ∃ x y, Dp K H v (.tuple [x, y]) ∧ spotD n x y = false
theorem badPUp : UpV (BadP K n) := fun v H H' e ⟨x, y, h, k⟩ => ⟨x, y, dpUp e h, k⟩
theorem evBadP {x y : PyData} (h : EvAD K tl σ H [x, y]) (k : spotD n x y = false) : EvV (tTup tl) σ H (BadP K n) := EvV.imp (edTup h (Nat.le_of_ble_eq_true rfl)).v fun v H1 hv => ⟨x, y, hv, k⟩
theorem qTup2P {i j : Nat} (h : EvV te σ H (BadP K n)) (k : ∀ v w x y H1, Ex H H1 → Dp K H1 v x → Dp K H1 w y → spotD n x y = false → tz D ((σ.set i (some v)).set j (some w)) H1) : tSeq (tAsg te (gTup K 2 (gCons (gName i) (gCons (gName j) gNil)))) tz D σ H := h H (Ex.refl H) _ fun v H1 e ⟨x, y, hv, hb⟩ => by
  obtain ⟨a, b, h1, h2, hh⟩ := tgTup2 (σ1 := σ) (i := i) (j := j) hv
  exact hh _ (k a b x y H1 e h1 h2 hb)
/-- no letters -/
def BadL (K : PySem.W.Frag) : V → Hp → Prop := fun v H => ∃ x, Dp K H v x ∧ Short x ∧ letB x = false
theorem badLUp : UpV (BadL K) := fun v H H' e ⟨x, h, k⟩ => ⟨x, dpUp e h, k⟩
theorem evBadL {x : PyData} (h : EvD K te σ H x) (k1 : shB x = true) (k2 : letB x = false) : EvV te σ H (BadL K) := EvV.imp h fun v H1 hv => ⟨x, hv, shOf k1, k2⟩
/-- no doors -/
def BadD (K : PySem.W.Frag) : V → Hp → Prop := fun v H => ∃ x, Dp K H v x ∧ ∀ i : Int, x = .int i → i ≠ 1
theorem badDUp : UpV (BadD K) := fun v H H' e ⟨x, h, k⟩ => ⟨x, dpUp e h, k⟩
theorem evBadD {x : PyData} (h : EvD K te σ H x) (k : ∀ i : Int, x = .int i → i ≠ 1) : EvV te σ H (BadD K) := EvV.imp h fun v H1 hv => ⟨x, hv, k⟩
theorem evBadI {i : Int} (h : EvD K te σ H (.int i)) (k : i ≠ 1) : EvV te σ H (BadD K) := evBadD h fun j e => by
  cases e
  exact k
end
theorem doors3 : doorsOf (pairs (codes 3 (gOf t3))) = [1] := by decide +kernel
end Dt
namespace Dt
open PySem L2 Evl PyProof.Rows
/-! what is told of a refusal -/
def dueOf (k i : Int) : List Bool := [decide (k = 0) || (decide (k = 5) && decide (i / 7 % 2 = 1)), decide (k = 1 ∨ k = 2), decide (k = 3), decide (3 < k) && !(decide (k = 0) || (decide (k = 5) && decide (i / 7 % 2 = 1))), true]
def P__law_told6 : List PyData → List PyData → Prop := fun ds es => ∃ k i j : Int, 0 ≤ k ∧ k < 6 ∧ 0 ≤ i ∧ 0 ≤ j ∧ j < 1000 ∧ ds = [.int k, .int i, .int j] ∧ es = (dueOf k i).map .bool
theorem in12 (k : Int) : (if false = true then !inV (.int k) [.int 1, .int 2] else inV (.int k) [.int 1, .int 2]) = decide (k = 1 ∨ k = 2) := by
  show (eqV (.int 1) (.int k) || (eqV (.int 2) (.int k) || false)) = _
  have e : ∀ a b : Int, eqV (.int a) (.int b) = decide (a = b) := fun a b => by
    unfold eqV
    rfl
  rw [e, e, Bool.or_false, Bool.eq_iff_iff]
  simp only [Bool.or_eq_true, decide_eq_true_eq]
  omega
def suiteT (K : PySem.W.Frag) (C1 C2 C3 C4 : Addr) : Addr → Value → Option Addr → TS := fun a cls d =>
  tSeq (tAsg (tLst (tCons (tCB (rIsX K cls d a) (tCons (tVar 3) (tCons (tC (.ref C1)) tNil))) (tCons (tCB (rIsX K cls d a) (tCons (tVar 3) (tCons (tC (.ref C2)) tNil))) (tCons (tCB (rIsX K cls d a) (tCons (tVar 3) (tCons (tC (.ref C3)) tNil))) tNil)))) (gName 4))
    (tRet (tOp rCat (tVar 4) (tLst (tCons (tCB (rIsX K cls d a) (tCons (tVar 3) (tCons (tC (.ref C4)) tNil))) (tCons (tCB (rIsX K cls d a) (tCons (tVar 3) (tCons (tC (.ty "ValueError")) tNil))) tNil)))))
section
variable {K : PySem.W.Frag} {σ : L2.St} {H H1 : Hp} {tb : TE}
theorem enCatVN {i : Nat} {p : Addr} {xs : List V} {ds es : List PyData} (hi : σ[i]? = some (some (.ref p))) (h1 : H p = some (.lst xs)) (hd : DpAll K H xs ds) (hb : EvN K tb σ H es) (hl : ds.length + es.length ≤ 100000) : EvN K (tOp rCat (tVar i) tb) σ H (ds ++ es) := fun H1 a Q q =>
  ⟨_, hi, hb H1 a _ fun p' ys H2 hp' b h2 he => ⟨p, p', xs, ys, rfl, rfl, b _ _ (a _ _ h1), h2, sz_of (by rw [dpsLen hd, dpsLen he]; exact hl), fun l hlz => q l _ _ (fresh_back b hlz) (b.trans (Ex.new hlz)) upd_same (dpsApp (dpsUp ((a.trans b).trans (Ex.new hlz)) hd) (dpsUp (Ex.new hlz) he))⟩⟩
theorem toldS {C CW C1 C2 C3 C4 : Addr} {b1 b2 b3 b4 : Bool} {v1 v2 v3 : Option V} {D : Ends} {Wout : WX} (x : XCl K C CW) (w : WCl K CW) (k1 : PySem.W.kitOne K (.ref C) (.ref C1) = some b1) (k2 : PySem.W.kitOne K (.ref C) (.ref C2) = some b2) (k3 : PySem.W.kitOne K (.ref C) (.ref C3) = some b3) (k4 : PySem.W.kitOne K (.ref C) (.ref C4) = some b4)
    (q : ∀ p xs H', H p = none → Ex H H' → H' p = some (.lst xs) → DpAll K H' xs ([b1, b2, b3, b4, true].map .bool) → D.rt (.ref p) H') (e : Ex H H1) : wAs K (.ref CW) 3 (suiteT K C1 C2 C3 C4) Wout D (.ref C) none [v1, v2, v3, none, none] H1 :=
  ⟨true, exmW x w, fun _ a ha => by
    refine qAsgN (ds := [.bool b1, .bool b2, .bool b3]) (enLst (aCons (edIsE x.is rfl k1) (aCons (edIsE x.is rfl k2) (aCons (edIsE x.is rfl k3) aNil))) (Nat.le_of_ble_eq_true rfl)) fun p xs H2 hp e2 h2 hd => ?_
    refine sRetN (enCatVN (es := [.bool b4, .bool true]) rfl h2 hd (enLst (aCons (edIsE x.is rfl k4) (aCons (edIsV x.is rfl x.ve) aNil)) (Nat.le_of_ble_eq_true rfl)) (Nat.le_of_ble_eq_true rfl)) fun l ys H3 hl e3 h3 hd3 => ?_
    exact q l ys H3 (fresh_back (e.trans e2) hl) ((e.trans e2).trans e3) h3 hd3, fun z => nomatch z⟩
end
theorem putLit : [PyData.str "ab", .str "a"] = triD 2 (putG (gOf tA) 1 0 97) := by
  rw [show ("ab" : Str) = ⟨#[97, 98]⟩ by decide +kernel, show ("a" : Str) = ⟨#[97]⟩ by decide +kernel]
  rfl
theorem shDue (k i : Int) : SeqAt.shaped (.list ((dueOf k i).map .bool)) = true := rfl
end Dt

/-! The text by its places. -/
namespace Dt
open PySem L2 Evl PyProof.Rows
def topS (i : Nat) : Stmt := PySem.Challenge.pw_doorwalk_k06_refused.main.body.getD i (.Pass ⟨0, 0, 0, 0⟩)
abbrev s_is_number : Stmt := topS 12
theorem sc_is_number : FnScope ["value"] ["value"] (defScope s_is_number) := ⟨rfl, rfl, rfl, by decide +kernel, rfl, by decide +kernel, by decide +kernel⟩
abbrev s_is_letter : Stmt := topS 13
theorem sc_is_letter : FnScope ["value"] ["value"] (defScope s_is_letter) := ⟨rfl, rfl, rfl, by decide +kernel, rfl, by decide +kernel, by decide +kernel⟩
abbrev s_is_row : Stmt := topS 14
theorem sc_is_row : FnScope ["row", "many", "letter"] ["row", "many"] (defScope s_is_row) := ⟨rfl, rfl, rfl, by decide +kernel, rfl, by decide +kernel, by decide +kernel⟩
abbrev s_is_triangle : Stmt := topS 15
theorem sc_is_triangle : FnScope ["triangle", "many", "at", "row"] ["triangle"] (defScope s_is_triangle) := ⟨rfl, rfl, rfl, by decide +kernel, rfl, by decide +kernel, by decide +kernel⟩
abbrev s_is_spot : Stmt := topS 16
theorem sc_is_spot : FnScope ["triangle", "row", "place"] ["triangle", "row", "place"] (defScope s_is_spot) := ⟨rfl, rfl, rfl, by decide +kernel, rfl, by decide +kernel, by decide +kernel⟩
abbrev s_is_small : Stmt := topS 17
theorem sc_is_small : FnScope ["triangle", "small", "part", "row", "place"] ["triangle", "small"] (defScope s_is_small) := ⟨rfl, rfl, rfl, by decide +kernel, rfl, by decide +kernel, by decide +kernel⟩
abbrev s_check_triangle : Stmt := topS 18
theorem sc_check_triangle : FnScope ["triangle"] ["triangle"] (defScope s_check_triangle) := ⟨rfl, rfl, rfl, by decide +kernel, rfl, by decide +kernel, by decide +kernel⟩
abbrev s_check_small : Stmt := topS 19
theorem sc_check_small : FnScope ["triangle", "small"] ["triangle", "small"] (defScope s_check_small) := ⟨rfl, rfl, rfl, by decide +kernel, rfl, by decide +kernel, by decide +kernel⟩
abbrev s_corners : Stmt := topS 20
theorem sc_corners : FnScope ["small", "row", "place", "up"] ["small"] (defScope s_corners) := ⟨rfl, rfl, rfl, by decide +kernel, rfl, by decide +kernel, by decide +kernel⟩
abbrev s_letters_at : Stmt := topS 22
theorem sc_letters_at : FnScope ["triangle", "spots", "row", "place"] ["triangle", "spots"] (defScope s_letters_at) := ⟨rfl, rfl, rfl, by decide +kernel, rfl, by decide +kernel, by decide +kernel⟩
abbrev s_turn_of : Stmt := topS 23
theorem sc_turn_of : FnScope ["triangle", "small", "round_left"] ["triangle", "small"] (defScope s_turn_of) := ⟨rfl, rfl, rfl, by decide +kernel, rfl, by decide +kernel, by decide +kernel⟩
abbrev s_side_spots : Stmt := topS 24
theorem sc_side_spots : FnScope ["triangle", "last", "below", "right", "left", "place", "row"] ["triangle"] (defScope s_side_spots) := ⟨rfl, rfl, rfl, by decide +kernel, rfl, by decide +kernel, by decide +kernel⟩
abbrev s_side_steps : Stmt := topS 25
theorem sc_side_steps : FnScope ["triangle", "spots"] ["triangle"] (defScope s_side_steps) := ⟨rfl, rfl, rfl, by decide +kernel, rfl, by decide +kernel, by decide +kernel⟩
abbrev s_is_door : Stmt := topS 26
theorem sc_is_door : FnScope ["triangle", "step"] ["triangle", "step"] (defScope s_is_door) := ⟨rfl, rfl, rfl, by decide +kernel, rfl, by decide +kernel, by decide +kernel⟩
abbrev s_fulls : Stmt := topS 28
theorem sc_fulls : FnScope ["triangle", "small"] ["triangle"] (defScope s_fulls) := ⟨rfl, rfl, rfl, by decide +kernel, rfl, by decide +kernel, by decide +kernel⟩
abbrev s_around : Stmt := topS 29
theorem sc_around : FnScope ["triangle", "steps", "step"] ["triangle"] (defScope s_around) := ⟨rfl, rfl, rfl, by decide +kernel, rfl, by decide +kernel, by decide +kernel⟩
abbrev s_doors : Stmt := topS 30
theorem sc_doors : FnScope ["triangle", "at", "step"] ["triangle"] (defScope s_doors) := ⟨rfl, rfl, rfl, by decide +kernel, rfl, by decide +kernel, by decide +kernel⟩
abbrev s_turn : Stmt := topS 31
theorem sc_turn : FnScope ["triangle", "small"] ["triangle", "small"] (defScope s_turn) := ⟨rfl, rfl, rfl, by decide +kernel, rfl, by decide +kernel, by decide +kernel⟩
abbrev s_put : Stmt := topS 32
theorem sc_put : FnScope ["triangle", "row", "place", "letter", "rows"] ["triangle", "row", "place", "letter"] (defScope s_put) := ⟨rfl, rfl, rfl, by decide +kernel, rfl, by decide +kernel, by decide +kernel⟩
abbrev s_told : Stmt := topS 43
theorem sc_told : FnScope ["triangle", "row", "letters", "place", "up"] ["triangle"] (defScope s_told) := ⟨rfl, rfl, rfl, by decide +kernel, rfl, by decide +kernel, by decide +kernel⟩
abbrev s_walk : Stmt := topS 44
theorem sc_walk : FnScope ["triangle", "door", "step"] ["triangle", "door"] (defScope s_walk) := ⟨rfl, rfl, rfl, by decide +kernel, rfl, by decide +kernel, by decide +kernel⟩
abbrev s_walk_out : Stmt := topS 45
theorem sc_walk_out : FnScope ["triangle", "small", "row", "place", "up"] ["triangle", "small"] (defScope s_walk_out) := ⟨rfl, rfl, rfl, by decide +kernel, rfl, by decide +kernel, by decide +kernel⟩
abbrev s__law_triangle_asked : Stmt := topS 47
theorem sc__law_triangle_asked : FnScope ["_law_which", "_law_more", "_law_bad", "_law_some", "_law_door"] ["_law_which", "_law_more"] (defScope s__law_triangle_asked) := ⟨rfl, rfl, rfl, by decide +kernel, rfl, by decide +kernel, by decide +kernel⟩
abbrev s__law_small_asked : Stmt := topS 48
theorem sc__law_small_asked : FnScope ["_law_which", "_law_more", "_law_triangle", "_law_bad"] ["_law_which", "_law_more"] (defScope s__law_small_asked) := ⟨rfl, rfl, rfl, by decide +kernel, rfl, by decide +kernel, by decide +kernel⟩
abbrev s__law_others_asked : Stmt := topS 49
theorem sc__law_others_asked : FnScope ["_law_kind", "_law_which", "_law_more", "_law_bad", "_law_row", "_law_place"] ["_law_kind", "_law_which", "_law_more"] (defScope s__law_others_asked) := ⟨rfl, rfl, rfl, by decide +kernel, rfl, by decide +kernel, by decide +kernel⟩
abbrev s__law_told : Stmt := topS 50
theorem sc__law_told : FnScope ["_law_kind", "_law_which", "_law_more", "error", "_law_found"] ["_law_kind", "_law_which", "_law_more"] (defScope s__law_told) := ⟨rfl, rfl, rfl, by decide +kernel, rfl, by decide +kernel, by decide +kernel⟩
abbrev s_law : Stmt := topS 51
theorem sc_law : FnScope ["_law_script", "_law_cell", "_law_kind", "_law_which", "_law_first", "_law_due"] ["_law_script"] (defScope s_law) := ⟨rfl, rfl, rfl, by decide +kernel, rfl, by decide +kernel, by decide +kernel⟩
structure Tx (K : PySem.W.Frag) (mg : Str → Option Value) where
  a_is_number : Addr
  d_is_number : FuncData
  F_is_number : Fun K "is_number" "is_number" s_is_number a_is_number d_is_number
  b_is_number : Binds K d_is_number ["value"] []
  g_is_number : mg "is_number" = some (.ref a_is_number)
  a_is_letter : Addr
  d_is_letter : FuncData
  F_is_letter : Fun K "is_letter" "is_letter" s_is_letter a_is_letter d_is_letter
  b_is_letter : Binds K d_is_letter ["value"] []
  g_is_letter : mg "is_letter" = some (.ref a_is_letter)
  a_is_row : Addr
  d_is_row : FuncData
  F_is_row : Fun K "is_row" "is_row" s_is_row a_is_row d_is_row
  b_is_row : Binds K d_is_row ["row", "many"] []
  g_is_row : mg "is_row" = some (.ref a_is_row)
  a_is_triangle : Addr
  d_is_triangle : FuncData
  F_is_triangle : Fun K "is_triangle" "is_triangle" s_is_triangle a_is_triangle d_is_triangle
  b_is_triangle : Binds K d_is_triangle ["triangle"] []
  g_is_triangle : mg "is_triangle" = some (.ref a_is_triangle)
  a_is_spot : Addr
  d_is_spot : FuncData
  F_is_spot : Fun K "is_spot" "is_spot" s_is_spot a_is_spot d_is_spot
  b_is_spot : Binds K d_is_spot ["triangle", "row", "place"] []
  g_is_spot : mg "is_spot" = some (.ref a_is_spot)
  a_is_small : Addr
  d_is_small : FuncData
  F_is_small : Fun K "is_small" "is_small" s_is_small a_is_small d_is_small
  b_is_small : Binds K d_is_small ["triangle", "small"] []
  g_is_small : mg "is_small" = some (.ref a_is_small)
  a_check_triangle : Addr
  d_check_triangle : FuncData
  F_check_triangle : Fun K "check_triangle" "check_triangle" s_check_triangle a_check_triangle d_check_triangle
  b_check_triangle : Binds K d_check_triangle ["triangle"] []
  g_check_triangle : mg "check_triangle" = some (.ref a_check_triangle)
  a_check_small : Addr
  d_check_small : FuncData
  F_check_small : Fun K "check_small" "check_small" s_check_small a_check_small d_check_small
  b_check_small : Binds K d_check_small ["triangle", "small"] []
  g_check_small : mg "check_small" = some (.ref a_check_small)
  a_corners : Addr
  d_corners : FuncData
  F_corners : Fun K "corners" "corners" s_corners a_corners d_corners
  b_corners : Binds K d_corners ["small"] []
  g_corners : mg "corners" = some (.ref a_corners)
  a_letters_at : Addr
  d_letters_at : FuncData
  F_letters_at : Fun K "letters_at" "letters_at" s_letters_at a_letters_at d_letters_at
  b_letters_at : Binds K d_letters_at ["triangle", "spots"] []
  g_letters_at : mg "letters_at" = some (.ref a_letters_at)
  a_turn_of : Addr
  d_turn_of : FuncData
  F_turn_of : Fun K "turn_of" "turn_of" s_turn_of a_turn_of d_turn_of
  b_turn_of : Binds K d_turn_of ["triangle", "small"] []
  g_turn_of : mg "turn_of" = some (.ref a_turn_of)
  a_side_spots : Addr
  d_side_spots : FuncData
  F_side_spots : Fun K "side_spots" "side_spots" s_side_spots a_side_spots d_side_spots
  b_side_spots : Binds K d_side_spots ["triangle"] []
  g_side_spots : mg "side_spots" = some (.ref a_side_spots)
  a_side_steps : Addr
  d_side_steps : FuncData
  F_side_steps : Fun K "side_steps" "side_steps" s_side_steps a_side_steps d_side_steps
  b_side_steps : Binds K d_side_steps ["triangle"] []
  g_side_steps : mg "side_steps" = some (.ref a_side_steps)
  a_is_door : Addr
  d_is_door : FuncData
  F_is_door : Fun K "is_door" "is_door" s_is_door a_is_door d_is_door
  b_is_door : Binds K d_is_door ["triangle", "step"] []
  g_is_door : mg "is_door" = some (.ref a_is_door)
  a_fulls : Addr
  d_fulls : FuncData
  F_fulls : Fun K "fulls" "fulls" s_fulls a_fulls d_fulls
  b_fulls : Binds K d_fulls ["triangle"] []
  g_fulls : mg "fulls" = some (.ref a_fulls)
  a_around : Addr
  d_around : FuncData
  F_around : Fun K "around" "around" s_around a_around d_around
  b_around : Binds K d_around ["triangle"] []
  g_around : mg "around" = some (.ref a_around)
  a_doors : Addr
  d_doors : FuncData
  F_doors : Fun K "doors" "doors" s_doors a_doors d_doors
  b_doors : Binds K d_doors ["triangle"] []
  g_doors : mg "doors" = some (.ref a_doors)
  a_turn : Addr
  d_turn : FuncData
  F_turn : Fun K "turn" "turn" s_turn a_turn d_turn
  b_turn : Binds K d_turn ["triangle", "small"] []
  g_turn : mg "turn" = some (.ref a_turn)
  a_put : Addr
  d_put : FuncData
  F_put : Fun K "put" "put" s_put a_put d_put
  b_put : Binds K d_put ["triangle", "row", "place", "letter"] []
  g_put : mg "put" = some (.ref a_put)
  a_told : Addr
  d_told : FuncData
  F_told : Fun K "told" "told" s_told a_told d_told
  b_told : Binds K d_told ["triangle"] []
  g_told : mg "told" = some (.ref a_told)
  a_walk : Addr
  d_walk : FuncData
  F_walk : Fun K "walk" "walk" s_walk a_walk d_walk
  b_walk : Binds K d_walk ["triangle", "door"] []
  g_walk : mg "walk" = some (.ref a_walk)
  a_walk_out : Addr
  d_walk_out : FuncData
  F_walk_out : Fun K "walk_out" "walk_out" s_walk_out a_walk_out d_walk_out
  b_walk_out : Binds K d_walk_out ["triangle", "small"] []
  g_walk_out : mg "walk_out" = some (.ref a_walk_out)
  a__law_triangle_asked : Addr
  d__law_triangle_asked : FuncData
  F__law_triangle_asked : Fun K "_law_triangle_asked" "_law_triangle_asked" s__law_triangle_asked a__law_triangle_asked d__law_triangle_asked
  b__law_triangle_asked : Binds K d__law_triangle_asked ["_law_which", "_law_more"] []
  g__law_triangle_asked : mg "_law_triangle_asked" = some (.ref a__law_triangle_asked)
  a__law_small_asked : Addr
  d__law_small_asked : FuncData
  F__law_small_asked : Fun K "_law_small_asked" "_law_small_asked" s__law_small_asked a__law_small_asked d__law_small_asked
  b__law_small_asked : Binds K d__law_small_asked ["_law_which", "_law_more"] []
  g__law_small_asked : mg "_law_small_asked" = some (.ref a__law_small_asked)
  a__law_others_asked : Addr
  d__law_others_asked : FuncData
  F__law_others_asked : Fun K "_law_others_asked" "_law_others_asked" s__law_others_asked a__law_others_asked d__law_others_asked
  b__law_others_asked : Binds K d__law_others_asked ["_law_kind", "_law_which", "_law_more"] []
  g__law_others_asked : mg "_law_others_asked" = some (.ref a__law_others_asked)
  a__law_told : Addr
  d__law_told : FuncData
  F__law_told : Fun K "_law_told" "_law_told" s__law_told a__law_told d__law_told
  b__law_told : Binds K d__law_told ["_law_kind", "_law_which", "_law_more"] []
  g__law_told : mg "_law_told" = some (.ref a__law_told)
  a_law : Addr
  d_law : FuncData
  F_law : Fun K "law" "law" s_law a_law d_law
  b_law : Binds K d_law ["_law_script"] []
  g_law : mg "law" = some (.ref a_law)
  z_ValueError : mg "ValueError" = none
  z_all : mg "all" = none
  z_bool : mg "bool" = none
  z_enumerate : mg "enumerate" = none
  z_int : mg "int" = none
  z_isinstance : mg "isinstance" = none
  z_len : mg "len" = none
  z_list : mg "list" = none
  z_range : mg "range" = none
  z_str : mg "str" = none
  z_tuple : mg "tuple" = none
  z_zip : mg "zip" = none
  a_DOOR_STEPS : Addr
  g_DOOR_STEPS : mg "DOOR_STEPS" = some (.ref a_DOOR_STEPS)
  a_LEFT_ROUNDS : Addr
  g_LEFT_ROUNDS : mg "LEFT_ROUNDS" = some (.ref a_LEFT_ROUNDS)
  a_LETTERS : Addr
  g_LETTERS : mg "LETTERS" = some (.ref a_LETTERS)
  a_RIGHT_ROUNDS : Addr
  g_RIGHT_ROUNDS : mg "RIGHT_ROUNDS" = some (.ref a_RIGHT_ROUNDS)
  C_WalkError : Addr
  g_WalkError : mg "WalkError" = some (.ref C_WalkError)
  C_BadTriangle : Addr
  g_BadTriangle : mg "BadTriangle" = some (.ref C_BadTriangle)
  C_BadSmall : Addr
  g_BadSmall : mg "BadSmall" = some (.ref C_BadSmall)
  C_BadDoor : Addr
  g_BadDoor : mg "BadDoor" = some (.ref C_BadDoor)
  C_BadSpot : Addr
  g_BadSpot : mg "BadSpot" = some (.ref C_BadSpot)
  x_BadTriangle : XCl K C_BadTriangle C_WalkError
  x_BadSmall : XCl K C_BadSmall C_WalkError
  x_BadDoor : XCl K C_BadDoor C_WalkError
  x_BadSpot : XCl K C_BadSpot C_WalkError
  w_WalkError : WCl K C_WalkError
  i_BadTriangle_BadTriangle : PySem.W.kitOne K (.ref C_BadTriangle) (.ref C_BadTriangle) = some true
  i_BadTriangle_BadSmall : PySem.W.kitOne K (.ref C_BadTriangle) (.ref C_BadSmall) = some false
  i_BadTriangle_BadDoor : PySem.W.kitOne K (.ref C_BadTriangle) (.ref C_BadDoor) = some false
  i_BadTriangle_BadSpot : PySem.W.kitOne K (.ref C_BadTriangle) (.ref C_BadSpot) = some false
  i_BadSmall_BadTriangle : PySem.W.kitOne K (.ref C_BadSmall) (.ref C_BadTriangle) = some false
  i_BadSmall_BadSmall : PySem.W.kitOne K (.ref C_BadSmall) (.ref C_BadSmall) = some true
  i_BadSmall_BadDoor : PySem.W.kitOne K (.ref C_BadSmall) (.ref C_BadDoor) = some false
  i_BadSmall_BadSpot : PySem.W.kitOne K (.ref C_BadSmall) (.ref C_BadSpot) = some false
  i_BadDoor_BadTriangle : PySem.W.kitOne K (.ref C_BadDoor) (.ref C_BadTriangle) = some false
  i_BadDoor_BadSmall : PySem.W.kitOne K (.ref C_BadDoor) (.ref C_BadSmall) = some false
  i_BadDoor_BadDoor : PySem.W.kitOne K (.ref C_BadDoor) (.ref C_BadDoor) = some true
  i_BadDoor_BadSpot : PySem.W.kitOne K (.ref C_BadDoor) (.ref C_BadSpot) = some false
  i_BadSpot_BadTriangle : PySem.W.kitOne K (.ref C_BadSpot) (.ref C_BadTriangle) = some false
  i_BadSpot_BadSmall : PySem.W.kitOne K (.ref C_BadSpot) (.ref C_BadSmall) = some false
  i_BadSpot_BadDoor : PySem.W.kitOne K (.ref C_BadSpot) (.ref C_BadDoor) = some false
  i_BadSpot_BadSpot : PySem.W.kitOne K (.ref C_BadSpot) (.ref C_BadSpot) = some true
  k_DOOR_STEPS : ∀ H, SqT K H a_DOOR_STEPS [.str "ab", .str "ba"]
  k_LEFT_ROUNDS : ∀ H, SqT K H a_LEFT_ROUNDS [.str "abc", .str "bca", .str "cab"]
  k_LETTERS : ∀ H, SqT K H a_LETTERS [.str "a", .str "b", .str "c"]
  k_RIGHT_ROUNDS : ∀ H, SqT K H a_RIGHT_ROUNDS [.str "acb", .str "cba", .str "bac"]
def kls {K : PySem.W.Frag} {mg : Str → Option Value} (T : Tx K mg) : Kls := ⟨0, 0, 0, 0⟩
end Dt

namespace Dt
open PySem L2 Evl PyProof.Rows
section
variable {P : Program} {w : World} {K : PySem.W.Frag} {mg : Str → Option Value} {base : Heap}
/-! any data -/
theorem ok_is_number (T : Tx K mg) : FnOk P w K mg base CX0 1 T.a_is_number T.d_is_number ["value"] (PrD K X_is_number) := by

  refine T.F_is_number.ok sc_is_number (prdLen (n := 1) fun ds d h => by obtain ⟨_, rfl, _⟩ := h; rfl) (fun cdv A outer s H vs Q E hr h => ?_)
  obtain ⟨ds, d, hd, ⟨x, rfl, rfl⟩, q⟩ := h
  obtain ⟨v, rfl, hv⟩ := dps1 hd
  refine ⟨_, (pss_one (ps_ret (pe_and (pe_callB (r := rIsi K) call_isi (by rfl) T.z_isinstance boot_isinstance (pa_cons (pv 0) (pa_cons (pe_bltn (v := .ty "int") (by rfl) T.z_int boot_int rfl) pa_nil))) (pe_one (pe_not (pe_callB (r := rIsi K) call_isi (by rfl) T.z_isinstance boot_isinstance (pa_cons (pv 0) (pa_cons (pe_bltn (v := .ty "bool") (by rfl) T.z_bool boot_bool rfl) pa_nil)))))))), ?_⟩
  obtain ⟨_, _, _, b, kb, a, ka, hab⟩ := kAll x
  exact sRet (edIs (edAnd (edIsi (edV rfl hv) ka) fun _ => edNot (edIsi (edV rfl hv) kb)) (by rw [hab])) fun v H1 e hv => q v H1 e hv
theorem ok_is_letter (T : Tx K mg) : FnOk P w K mg base CX0 1 T.a_is_letter T.d_is_letter ["value"] (PrD K X_is_letter) := by

  refine T.F_is_letter.ok sc_is_letter (prdLen (n := 1) fun ds d h => by obtain ⟨_, _, rfl, _⟩ := h; rfl) (fun cdv A outer s H vs Q E hr h => ?_)
  obtain ⟨ds, d, hd, ⟨x, hx, rfl, rfl⟩, q⟩ := h
  obtain ⟨v, rfl, hv⟩ := dps1 hd
  refine ⟨_, (pss_one (ps_ret (pe_and (pe_callB (r := rIsi K) call_isi (by rfl) T.z_isinstance boot_isinstance (pa_cons (pv 0) (pa_cons (pe_bltn (v := .ty "str") (by rfl) T.z_str boot_str rfl) pa_nil))) (pe_one (pe_cmpR (r := rIn K false) op_in_seq (pv 0) (pe_glob (v := .ref T.a_LETTERS) (by rfl) T.g_LETTERS rfl) (by with_unfolding_all rfl)))))), ?_⟩
  refine sRet (edIs (edAnd (a := isStrD x) (b := letB x) (edIsi (edV rfl hv) (kAll x).1) fun h => ?_) ?_) fun v H1 e hv => q v H1 e hv
  · match x, h, hv with
    | .str z, _, hv => exact edIs (edIn (b := inV (.str z) [.str "a", .str "b", .str "c"]) (ws := [.str "a", .str "b", .str "c"]) (edV rfl hv) (edE ev_c fun H1 => letD (T.k_LETTERS H1)) rfl rfl rfl rfl rfl) (by rw [inLets]; rfl)
  · cases x <;> rfl
theorem ok_is_row (T : Tx K mg) : FnOk P w K mg base CX0 1 T.a_is_row T.d_is_row ["row", "many"] (PrD K X_is_row) := by

  refine T.F_is_row.ok sc_is_row (prdLen (n := 2) fun ds d h => by obtain ⟨_, _, _, rfl, _⟩ := h; rfl) (fun cdv A outer s H vs Q E hr h => ?_)
  obtain ⟨ds, d, hd, ⟨x, m, hx, rfl, rfl⟩, q⟩ := h
  obtain ⟨v, vm, rfl, hv, hm⟩ := dps2 hd
  refine ⟨_, (pss_one (ps_ret (pe_and (pe_callB (r := rIsi K) call_isi (by rfl) T.z_isinstance boot_isinstance (pa_cons (pv 0) (pa_cons (pe_bltn (v := .ty "str") (by rfl) T.z_str boot_str rfl) pa_nil))) (pe_and (pe_cmpR (r := rEqD K) (op_eqD hr.units) (pe_callB (r := lenR K) call_lenR (by rfl) T.z_len boot_len (pa_cons (pv 0) pa_nil)) (pv 1) (nomark _)) (pe_one (pe_callB (r := rAll K) (cr_all rfl) (by rfl) T.z_all boot_all (pa_cons (pe_lc (own := [("letter", 2)]) (g := gName 2) (tt := tYes) rfl sc_is_row.nd (pi_str (pv 0)) (blkOk_by (N := ["row", "many", "letter"]) (sc := defScope s_is_row) (by decide +kernel)) (fun _ _ _ _ _ => (pg_name (i := 2) sc_is_row.nd rfl (.inl rfl))) (fun _ _ _ _ _ => pts_nil) (fun _ _ _ _ _ => (pe_cmpR (r := rIn K false) op_in_seq (pv 2) (pe_glob (v := .ref T.a_LETTERS) (by rfl) T.g_LETTERS rfl) (by with_unfolding_all rfl)))) pa_nil))))))), ?_⟩
  refine sRet (edIs (edAnd (a := isStrD x) (b := rowB m x) (edIsi (edV rfl hv) (kAll x).1) fun h => ?_) ?_) fun v H1 e hv => q v H1 e hv
  · match x, h, hx, hv with
    | .str z, _, hx, hv =>
      have h0 : EvD K (tVar 0) (start ["row", "many", "letter"] [v, vm]) H (.str z) := edV rfl hv
      have hx : z.length ≤ 100000 := hx
      refine edIs (edAnd (edEqI (edLenS h0 hx) (edV rfl hm)) fun _ => edAll (bs := z.cps.toList.map fun c => decide (c = 97 ∨ c = 98 ∨ c = 99)) (edN (enIs (enLcA z.cps.toList (fun c => .str ⟨#[c]⟩) (fun c => .bool (decide (c = 97 ∨ c = 98 ∨ c = 99))) (idStr h0) (by rw [Array.length_toList]; exact hx) (fun _ _ => by rw [noL]) fun c _ H1 w e1 hw => ⟨_, tgName, rfl, edIs (edIn (b := inV (.str ⟨#[c]⟩) [.str "a", .str "b", .str "c"]) (ws := [.str "a", .str "b", .str "c"]) (edV rfl hw) (edE ev_c fun H1 => letD (T.k_LETTERS H1)) rfl rfl rfl rfl rfl) (by rw [inLets, oneLet])⟩) (by rw [List.map_map]; rfl)))) ?_
      rw [List.all_map]
      rfl
  · cases x <;> rfl

end
end Dt

namespace Dt
open PySem L2 Evl PyProof.Rows
section
variable {P : Program} {w : World} {K : PySem.W.Frag} {mg : Str → Option Value} {base : Heap}
/-! triangles, any value -/
theorem ok_is_triangle (T : Tx K mg) : FnOk P w K mg base CX0 2 T.a_is_triangle T.d_is_triangle ["triangle"] (SpTriV K) := by
  have G_is_row : FnOk P w K mg base CX0 1 T.a_is_row T.d_is_row ["row", "many"] (PrD K X_is_row) := ok_is_row T
  refine T.F_is_triangle.ok sc_is_triangle (fun vs H Q E h => by obtain ⟨_, _, rfl, _⟩ := h; rfl) (fun cdv A outer s H vs Q E hr h => ?_)
  obtain ⟨v, b, rfl, hv, q⟩ := h
  refine ⟨_, (pss_cons (ps_if (PW.pt (pw_or (pt_not (pt_val (pe_callB (r := rIsi K) call_isi (by rfl) T.z_isinstance boot_isinstance (pa_cons (pv 0) (pa_cons (pe_bltn (v := .ty "list") (by rfl) T.z_list boot_list rfl) pa_nil))))) (pw_or1 (pt_cmpR op_lt (pe_callB (r := lenR K) call_lenR (by rfl) T.z_len boot_len (pa_cons (pv 0) pa_nil)) pe_int (nomark _))))) (pss_one (ps_ret pe_bl)) pss_nil)
    (pss_cons (ps_set (i := 1) sc_is_triangle.nd rfl (.inr rfl) (pe_callB (r := lenR K) call_lenR (by rfl) T.z_len boot_len (pa_cons (pv 0) pa_nil)))
    (pss_one (ps_ret (pe_callB (r := rAll K) (cr_all rfl) (by rfl) T.z_all boot_all (pa_cons (pe_lc (own := [("at", 2), ("row", 3)]) (g := gTup K 2 (gCons (gName 2) (gCons (gName 3) gNil))) (tt := tYes) rfl sc_is_triangle.nd (pi_enum (by rfl) T.z_enumerate (pa_cons (pv 0) pa_nil)) (blkOk_by (N := ["triangle", "many", "at", "row"]) (sc := defScope s_is_triangle) (by decide +kernel)) (fun _ _ _ _ _ => (pg_tup rfl (pgs_cons (pg_name (i := 2) sc_is_triangle.nd rfl (.inl rfl)) (pgs_cons (pg_name (i := 3) sc_is_triangle.nd rfl (.inl rfl)) pgs_nil)))) (fun _ _ _ _ _ => pts_nil) (fun _ _ _ _ _ => (pe_call G_is_row (hr.mono (by decide)) (by rfl) T.g_is_row T.F_is_row.kp T.b_is_row .nil pass0 (pa_cons (pv 3) (pa_cons (pe_op op_sub (pv 1) (pv 2)) pa_nil))))) pa_nil)))))), ?_⟩
  rcases hv with ⟨x, hv, ⟨hx, hxs⟩, rfl⟩ | ⟨rfl, a, rfl, ha⟩
  · refine q_when (b := !isLstD x || decide (lenD x < 2)) (et_or (et_not (etV (edIsi (edV rfl hv) (kAll x).2.1))) fun h => ?_) (fun hb H1 e1 => ?_) (fun hb H1 e1 => ?_)
    · match x, h, hx, hv with
      | .list xs, _, hx, hv => exact etC (edLt (edLenL (edV rfl hv)) (cI 2))
    · have e : trisB x = false := by
        cases x with
        | list xs =>
          have h2 : (xs.length : Int) < 2 := of_decide_eq_true hb
          rw [trisL, decide_eq_false (show ¬ 2 ≤ xs.length by omega)]
          rfl
        | _ => rfl
      rw [e] at q
      exact sRet (edB (K := K) ev_c) fun v' H2 e2 hv' => by rw [dpBl hv']; exact q H2 (e1.trans e2)
    · match x, hb, hx, hxs, hv, q with
      | .list xs, hb, hx, hxs, hv, q =>
        have h2 : ¬ (xs.length : Int) < 2 := of_decide_eq_false hb
        have hx : xs.length ≤ 100000 := hx
        have hv1 := dpUp e1 hv
        refine qAsg (edLenL (edV rfl hv1)) fun m H2 e2 hm => ?_
        have hm := dpInt hm
        subst hm
        have hv2 := dpUp e2 hv1
        refine sRet (edIs (edAll (bs := (List.range xs.length).map fun i => rowB ((xs.length : Int) - (i : Nat)) (xs.getD i .none)) (edN (enIs (enLcA (List.range xs.length) (fun i => .tuple [.int (i : Nat), xs.getD i .none]) (fun i => .bool (rowB ((xs.length : Int) - (i : Nat)) (xs.getD i .none))) (idIs (idEnum (aCons (edV rfl hv2) aNil)) (mapIdxGetB PyData.none _ xs)) (by rw [List.length_range]; exact hx) (fun _ _ => by rw [noL]) fun i hi H3 w e3 hw => ?_) (by rw [List.map_map]; rfl)))) (e := .bool (trisB (.list xs))) ?_) fun v' H3 e3 hv' => by rw [dpBl hv']; exact q H3 ((e1.trans e2).trans e3)
        · rw [List.mem_range] at hi
          obtain ⟨a, b, ha, hb, hg⟩ := tgTup2 (i := 2) (j := 3) (σ1 := wipe _ _) hw
          have ha := dpInt ha
          subst ha
          have hmem : xs.getD i .none ∈ xs := by
            rw [List.getD_eq_getElem?_getD, List.getElem?_eq_getElem hi]
            exact List.getElem_mem hi
          exact ⟨_, hg, rfl, edCall (aCons (edV rfl hb) (aCons (edI2 (edV rfl (.int _)) (edV rfl (.int _)) rfl) aNil)) ⟨_, _, hxs xs rfl _ hmem, rfl, rfl⟩⟩
        · refine congrArg PyData.bool ?_
          rw [trisL, decide_eq_true (show 2 ≤ xs.length by omega), Bool.true_and, mapIdxGetB PyData.none]
  · refine q_when (b := true) (et_or (b := false) (et_not (a := false) (etV (edB (K := K) fun H1 e Q q => ?_))) fun h => nomatch h) (fun _ H1 e1 => ?_) (fun hb => nomatch hb)
    · exact ⟨_, rfl, _, .ty "list", _, _, false, rfl, .ty "list", .base (.dK (e _ _ ha)), kit_ty kDL, q H1 (Ex.refl _)⟩
    · exact sRet (edB (K := K) ev_c) fun v' H2 e2 hv' => by rw [dpBl hv']; exact q H2 (e1.trans e2)

end
end Dt

namespace Dt
open PySem L2 Evl PyProof.Rows
section
variable {P : Program} {w : World} {K : PySem.W.Frag} {mg : Str → Option Value} {base : Heap}
theorem ok_is_spot (T : Tx K mg) : FnOk P w K mg base CX0 2 T.a_is_spot T.d_is_spot ["triangle", "row", "place"] (PrD K X_is_spot) := by
  have G_is_number : FnOk P w K mg base CX0 1 T.a_is_number T.d_is_number ["value"] (PrD K X_is_number) := ok_is_number T
  refine T.F_is_spot.ok sc_is_spot (prdLen (n := 3) fun ds d h => by obtain ⟨_, _, _, _, _, rfl, _⟩ := h; rfl) (fun cdv A outer s H vs Q E hr h => ?_)
  obtain ⟨ds, d, hd, ⟨n, g, x, y, tri, rfl, rfl⟩, q⟩ := h
  obtain ⟨v, a, b, rfl, hv, ha, hb⟩ := dps3 hd
  refine ⟨_, (pss_cons (ps_if (PW.pt (pw_or (pt_not (pt_val (pe_call G_is_number (hr.mono (by decide)) (by rfl) T.g_is_number T.F_is_number.kp T.b_is_number .nil pass0 (pa_cons (pv 1) pa_nil)))) (pw_or1 (pt_not (pt_val (pe_call G_is_number (hr.mono (by decide)) (by rfl) T.g_is_number T.F_is_number.kp T.b_is_number .nil pass0 (pa_cons (pv 2) pa_nil))))))) (pss_one (ps_ret pe_bl)) pss_nil)
    (pss_one (ps_ret (pe_and (pe_chain op_le op_lt pe_int (pv 1) (pe_callB (r := lenR K) call_lenR (by rfl) T.z_len boot_len (pa_cons (pv 0) pa_nil))) (pe_one (pe_chain op_le op_lt pe_int (pv 2) (pe_callB (r := lenR K) call_lenR (by rfl) T.z_len boot_len (pa_cons (pe_ix (r := rIxL K) ix_list (pv 0) (pv 1) (fun _ _ => rfl)) pa_nil)))))))), ?_⟩
  have lo := tri.lo
  have hi := tri.hi
  refine q_when (b := !isNumD x || !isNumD y) (et_or (et_not (etV (edCall (aCons (edV rfl ha) aNil) ⟨x, rfl, rfl⟩))) fun _ => et_not (etV (edCall (aCons (edV rfl hb) aNil) ⟨y, rfl, rfl⟩))) (fun hc H1 e1 => ?_) (fun hc H1 e1 => ?_)
  · rw [spotNo hc] at q
    exact sRet (edB ev_c) fun v' H2 e2 hv' => q v' H2 (e1.trans e2) hv'
  · match x, y, hc, ha, hb, q with
    | .int r, .int p, _, ha, hb, q =>
      have h1 : EvD K (tVar 1) (start ["triangle", "row", "place"] [v, a, b]) H (.int r) := edV rfl ha
      have h2 : EvD K (tVar 2) (start ["triangle", "row", "place"] [v, a, b]) H (.int p) := edV rfl hb
      have h0 : EvD K (tVar 0) (start ["triangle", "row", "place"] [v, a, b]) H (.list (triD n g)) := edV rfl hv
      have l1 : EvD K _ _ H1 _ := edLenL (K := K) (h0.up e1)
      rw [triLen] at l1
      refine sRet (edIs (edAnd (b := decide (0 ≤ p) && decide (p < (n : Int) - r)) (edChain ev_c (evI (h1.up e1)) (evI l1) (fun _ => rv_I0) fun _ => rv_I0) fun hb => ?_) ?_) fun v' H2 e2 hv' => q v' H2 (e1.trans e2) hv'
      · rw [Bool.and_eq_true] at hb
        have b1 : 0 ≤ r := of_decide_eq_true hb.1
        have b2 : r < (n : Int) := of_decide_eq_true hb.2
        obtain ⟨r', rfl⟩ : ∃ r' : Nat, r = r' := ⟨r.toNat, by omega⟩
        have l2 : EvD K _ _ H1 _ := edLenS (K := K) (edIxL (h0.up e1) (h1.up e1) (triAt (by omega))) (by rw [rowLen]; omega)
        rw [rowLen, show ((n - r' : Nat) : Int) = (n : Int) - (r' : Int) by omega] at l2
        exact edChain ev_c (evI (h2.up e1)) (evI l2) (fun _ => rv_I0) fun _ => rv_I0
      · refine congrArg PyData.bool ?_
        show _ = spotB n r p
        unfold spotB
        rw [Bool.eq_iff_iff]
        simp only [Bool.and_eq_true, decide_eq_true_eq]
        omega

end
end Dt

namespace Dt
open PySem L2 Evl PyProof.Rows
section
variable {P : Program} {w : World} {K : PySem.W.Frag} {mg : Str → Option Value} {base : Heap}
/-! small triangles, any value; checks -/
theorem ok_corners (T : Tx K mg) : FnOk P w K mg base CX0 1 T.a_corners T.d_corners ["small"] (PrN K Q_corners) := by

  refine T.F_corners.ok sc_corners (prnLen (n := 1) fun ds d h => by obtain ⟨_, _, _, _, rfl, _⟩ := h; rfl) (fun cdv A outer s H vs Q E hr h => ?_)
  obtain ⟨ds, es, hd, ⟨r, p, u, hu, rfl, rfl⟩, q⟩ := h
  obtain ⟨v, rfl, hv⟩ := dps1 hd
  refine ⟨_, (pss_cons (ps_asg (pv 0) (pg_tup rfl (pgs_cons (pg_name (i := 1) sc_corners.nd rfl (.inl rfl)) (pgs_cons (pg_name (i := 2) sc_corners.nd rfl (.inl rfl)) (pgs_cons (pg_name (i := 3) sc_corners.nd rfl (.inl rfl)) pgs_nil)))))
    (pss_cons (ps_if (pt_cmpR (r := rEqD K) (op_eqD hr.units) (pv 3) pe_int (nomark _)) (pss_one (ps_ret (pe_lst (pa_cons (pe_tup (pa_cons (pv 1) (pa_cons (pv 2) pa_nil))) (pa_cons (pe_tup (pa_cons (pv 1) (pa_cons (pe_op op_add (pv 2) pe_int) pa_nil))) (pa_cons (pe_tup (pa_cons (pe_op op_add (pv 1) pe_int) (pa_cons (pv 2) pa_nil))) pa_nil)))))) pss_nil)
    (pss_one (ps_ret (pe_lst (pa_cons (pe_tup (pa_cons (pv 1) (pa_cons (pe_op op_add (pv 2) pe_int) pa_nil))) (pa_cons (pe_tup (pa_cons (pe_op op_add (pv 1) pe_int) (pa_cons (pe_op op_add (pv 2) pe_int) pa_nil))) (pa_cons (pe_tup (pa_cons (pe_op op_add (pv 1) pe_int) (pa_cons (pv 2) pa_nil))) pa_nil)))))))), ?_⟩
  refine qTup3 (edV rfl hv) fun a b c H1 e1 ha hb hc => ?_
  have ha := dpInt ha
  have hb := dpInt hb
  have hc := dpInt hc
  subst ha hb hc
  have n1 : ∀ {H : Hp} {σ : L2.St} {i : Nat} {x : Int}, σ[i]? = some (some (.int x)) → EvD K (tVar i) σ H (.int x) := fun h => edV h (.int _)
  refine q_when (etC (edEqI (n1 rfl) (edI ev_c))) (fun hb H2 e2 => ?_) (fun hb H2 e2 => ?_)
  · have e0 : u = 1 := of_decide_eq_true hb
    subst e0
    refine sRetN (enIs (enLst (aCons (edTup (aCons (n1 rfl) (aCons (n1 rfl) aNil)) (Nat.le_of_ble_eq_true rfl)) (aCons (edTup (aCons (n1 rfl) (aCons (edI2 (n1 rfl) (edI ev_c) rfl) aNil)) (Nat.le_of_ble_eq_true rfl)) (aCons (edTup (aCons (edI2 (n1 rfl) (edI ev_c) rfl) (aCons (n1 rfl) aNil)) (Nat.le_of_ble_eq_true rfl)) aNil))) (Nat.le_of_ble_eq_true rfl)) rfl) fun l xs H3 hl e3 h3 h4 => q l xs H3 (fresh_back (e1.trans e2) hl) ((e1.trans e2).trans e3) h3 h4
  · have e0 : u = 0 := by
      have h9 : ¬ u = 1 := of_decide_eq_false hb
      omega
    subst e0
    refine sRetN (enIs (enLst (aCons (edTup (aCons (n1 rfl) (aCons (edI2 (n1 rfl) (edI ev_c) rfl) aNil)) (Nat.le_of_ble_eq_true rfl)) (aCons (edTup (aCons (edI2 (n1 rfl) (edI ev_c) rfl) (aCons (edI2 (n1 rfl) (edI ev_c) rfl) aNil)) (Nat.le_of_ble_eq_true rfl)) (aCons (edTup (aCons (edI2 (n1 rfl) (edI ev_c) rfl) (aCons (n1 rfl) aNil)) (Nat.le_of_ble_eq_true rfl)) aNil))) (Nat.le_of_ble_eq_true rfl)) rfl) fun l xs H3 hl e3 h3 h4 => q l xs H3 (fresh_back (e1.trans e2) hl) ((e1.trans e2).trans e3) h3 h4
theorem ok_is_small (T : Tx K mg) : FnOk P w K mg base CX0 3 T.a_is_small T.d_is_small ["triangle", "small"] (PrD K X_is_small) := by
  have G_is_number : FnOk P w K mg base CX0 1 T.a_is_number T.d_is_number ["value"] (PrD K X_is_number) := ok_is_number T
  have G_is_spot : FnOk P w K mg base CX0 2 T.a_is_spot T.d_is_spot ["triangle", "row", "place"] (PrD K X_is_spot) := ok_is_spot T
  have G_corners : FnOk P w K mg base CX0 1 T.a_corners T.d_corners ["small"] (PrN K Q_corners) := ok_corners T
  refine T.F_is_small.ok sc_is_small (prdLen (n := 2) fun ds d h => by obtain ⟨_, _, _, _, _, rfl, _⟩ := h; rfl) (fun cdv A outer s H vs Q E hr h => ?_)
  obtain ⟨ds, d, hd, ⟨n, g, x, tri, hx, rfl, rfl⟩, q⟩ := h
  obtain ⟨v, a, rfl, hv, ha⟩ := dps2 hd
  refine ⟨_, (pss_cons (ps_if (PW.pt (pw_or (pt_not (pt_val (pe_callB (r := rIsi K) call_isi (by rfl) T.z_isinstance boot_isinstance (pa_cons (pv 1) (pa_cons (pe_bltn (v := .ty "tuple") (by rfl) T.z_tuple boot_tuple rfl) pa_nil))))) (pw_or1 (pt_cmpR (r := rNeD K) (op_neD hr.units) (pe_callB (r := lenR K) call_lenR (by rfl) T.z_len boot_len (pa_cons (pv 1) pa_nil)) pe_int (nomark _))))) (pss_one (ps_ret pe_bl)) pss_nil)
    (pss_cons (ps_if (PW.pt (pw_or (pt_not (pt_val (pe_callB (r := rAll K) (cr_all rfl) (by rfl) T.z_all boot_all (pa_cons (pe_lc (own := [("part", 2)]) (g := gName 2) (tt := tYes) rfl sc_is_small.nd (pi_tup (pv 1)) (blkOk_by (N := ["triangle", "small", "part", "row", "place"]) (sc := defScope s_is_small) (by decide +kernel)) (fun _ _ _ _ _ => (pg_name (i := 2) sc_is_small.nd rfl (.inl rfl))) (fun _ _ _ _ _ => pts_nil) (fun _ _ _ _ _ => (pe_call G_is_number (hr.mono (by decide)) (by rfl) T.g_is_number T.F_is_number.kp T.b_is_number .nil pass0 (pa_cons (pv 2) pa_nil)))) pa_nil)))) (pw_or1 (pt_cmpR (r := rIn K true) op_notIn_seq (pe_ix (r := rIxT K) ix_tup (pv 1) pe_int (fun _ _ => rfl)) (pe_tup (pa_cons pe_int (pa_cons pe_int pa_nil))) (by with_unfolding_all rfl))))) (pss_one (ps_ret pe_bl)) pss_nil)
    (pss_one (ps_ret (pe_callB (r := rAll K) (cr_all rfl) (by rfl) T.z_all boot_all (pa_cons (pe_lc (own := [("row", 3), ("place", 4)]) (g := gTup K 2 (gCons (gName 3) (gCons (gName 4) gNil))) (tt := tYes) rfl sc_is_small.nd (pi_list (pe_call G_corners (hr.mono (by decide)) (by rfl) T.g_corners T.F_corners.kp T.b_corners .nil pass0 (pa_cons (pv 1) pa_nil))) (blkOk_by (N := ["triangle", "small", "part", "row", "place"]) (sc := defScope s_is_small) (by decide +kernel)) (fun _ _ _ _ _ => (pg_tup rfl (pgs_cons (pg_name (i := 3) sc_is_small.nd rfl (.inl rfl)) (pgs_cons (pg_name (i := 4) sc_is_small.nd rfl (.inl rfl)) pgs_nil)))) (fun _ _ _ _ _ => pts_nil) (fun _ _ _ _ _ => (pe_call G_is_spot (hr.mono (by decide)) (by rfl) T.g_is_spot T.F_is_spot.kp T.b_is_spot .nil pass0 (pa_cons (pv 0) (pa_cons (pv 3) (pa_cons (pv 4) pa_nil)))))) pa_nil)))))), ?_⟩
  have h1 : EvD K (tVar 1) (start ["triangle", "small", "part", "row", "place"] [v, a]) H x := edV rfl ha
  refine q_when (b := !isTupD x || !decide (lenT x = 3)) (et_or (et_not (etV (edIsi h1 (kAll x).2.2.1))) fun h => ?_) (fun hb H1 e1 => ?_) (fun hb H1 e1 => ?_)
  · match x, h, h1 with
    | .tuple xs, _, h1 => exact etC (edNeI (edLenT h1) (edI ev_c))
  · rw [smallNo hb] at q
    exact sRet (edB ev_c) fun v' H2 e2 hv' => q v' H2 (e1.trans e2) hv'
  · obtain ⟨x1, x2, x3, rfl⟩ := tup3Of hb
    have h1 := h1.up e1
    have all := edAll (K := K) (bs := [x1, x2, x3].map isNumD) (edN (enIs (enLcA (g := gName 2) (te := tCall (PrD K X_is_number) [] E0 (tCons (tVar 2) tNil)) (vs := [2]) [x1, x2, x3] (fun y => y) (fun y => .bool (isNumD y)) (idIs (idT h1) (List.map_id' _).symm) (Nat.le_of_ble_eq_true rfl) (fun _ _ => by rw [noL]) fun y _ H3 z e3 hz => ⟨_, tgName, rfl, edCall (aCons (edV rfl hz) aNil) ⟨_, rfl, rfl⟩⟩) (by rw [List.map_map]; rfl)))
    refine q_when (b := !([x1, x2, x3].map isNumD).all id || !upOk x3) (et_or (et_not (etV all)) fun hn => ?_) (fun hb2 H2 e2 => ?_) (fun hb2 H2 e2 => ?_)
    · obtain ⟨r, p, u, rfl, rfl, rfl⟩ := num3Of hn
      exact etC (edIn (neg := true) (b := !decide (u = 0 ∨ u = 1)) (w := .int u) (ws := [.int 0, .int 1]) (edIxT h1 (edI ev_c) (atNat (j := 2) rfl)) (edTup (aCons (edI ev_c) (aCons (edI ev_c) aNil)) (by decide)) rfl rfl rfl rfl (inUp u))
    · rw [smallNo2 hb2] at q
      exact sRet (edB ev_c) fun v' H3 e3 hv' => q v' H3 ((e1.trans e2).trans e3) hv'
    · obtain ⟨hn, hu⟩ := orF hb2
      obtain ⟨r, p, u, rfl, rfl, rfl⟩ := num3Of hn
      have hb : u = 0 ∨ u = 1 := of_decide_eq_true (show decide (u = 0 ∨ u = 1) = true by simpa [upOk] using hu)
      have h1 := h1.up e2
      refine sRet (edIs (edAll (bs := (crnZ r p u).map fun s => spotB n s.1 s.2) (edN (enIs (enLcA (crnZ r p u) spZ (fun s => .bool (spotB n s.1 s.2)) (idL (edN (enCall (aCons h1 aNil) ⟨r, p, u, hb, rfl, rfl⟩))) (by unfold crnZ; split <;> exact Nat.le_of_ble_eq_true rfl) (fun _ _ => by rw [noL]) fun s hs H3 x e3 hx => ?_) (by rw [List.map_map]; rfl)))) (congrArg PyData.bool ?_)) fun v' H3 e3 hv' => q v' H3 ((e1.trans e2).trans e3) hv'
      · obtain ⟨a1, b1, ha1, hb1, hg⟩ := tgTup2 (i := 3) (j := 4) (σ1 := wipe _ _) hx
        exact ⟨_, hg, rfl, edCall (aCons (edV rfl (dpUp ((e1.trans e2).trans e3) hv)) (aCons (edV rfl ha1) (aCons (edV rfl hb1) aNil))) ⟨n, g, .int s.1, .int s.2, tri, rfl, rfl⟩⟩
      · rw [List.all_map, show smallD n (.tuple [.int r, .int p, .int u]) = smB n r p u from rfl, ← crnAll hb]
        rfl
theorem ok_check_triangle (T : Tx K mg) : FnOk P w K mg base (L2.CX P w) 3 T.a_check_triangle T.d_check_triangle ["triangle"] (SpX (NChk K) (BadT K T.C_BadTriangle 1)) := by
  have G_is_triangle : FnOk P w K mg base CX0 2 T.a_is_triangle T.d_is_triangle ["triangle"] (SpTriV K) := ok_is_triangle T
  refine T.F_check_triangle.okX sc_check_triangle (spxLen lenChk lenBad) (fun cdv A outer s H vs Q E hr h => ?_)
  refine ⟨_, (pss_one (ps_if (pt_not (pt_val (pe_call G_is_triangle (hr.mono (by decide)) (by rfl) T.g_is_triangle T.F_is_triangle.kp T.b_is_triangle .nil pass0 (pa_cons (pv 0) pa_nil)))) (pss_one (ps_raiseC rfl (takes_of rfl rfl rfl rfl) T.x_BadTriangle T.g_BadTriangle rfl)) pss_nil)), ?_⟩
  rcases h with ⟨v, rfl, hv, q⟩ | ⟨C, ⟨rfl, hl, v, ws, rfl, hv⟩, hE⟩
  · exact sSkip (notT (etV (edTriV (evVar triUp rfl hv)))) fun H1 e1 => q H1 e1
  · match ws, hl with
    | [], _ => exact etV (edTriV (evVar triUp rfl hv)) H (Ex.refl H) _ fun H1 e1 => hE H1 e1
theorem ok_check_small (T : Tx K mg) : FnOk P w K mg base (L2.CX P w) 4 T.a_check_small T.d_check_small ["triangle", "small"] (SpX (PrD K P_chkSmall) (RSmall K T.C_BadSmall)) := by
  have G_is_small : FnOk P w K mg base CX0 3 T.a_is_small T.d_is_small ["triangle", "small"] (PrD K X_is_small) := ok_is_small T
  refine T.F_check_small.okX sc_check_small (spxLen (prdLen (n := 2) fun ds d h => by obtain ⟨_, _, _, _, _, rfl, _⟩ := h; rfl) lenSmall) (fun cdv A outer s H vs Q E hr h => ?_)
  refine ⟨_, (pss_one (ps_if (pt_not (pt_val (pe_call G_is_small (hr.mono (by decide)) (by rfl) T.g_is_small T.F_is_small.kp T.b_is_small .nil pass0 (pa_cons (pv 0) (pa_cons (pv 1) pa_nil))))) (pss_one (ps_raiseC rfl (takes_of rfl rfl rfl rfl) T.x_BadSmall T.g_BadSmall rfl)) pss_nil)), ?_⟩
  rcases h with ⟨ds, d, hd, ⟨n, g, x, tri, ⟨hx, hs⟩, rfl, rfl⟩, q⟩ | ⟨C, ⟨rfl, n, g, x, tri, hx, hd, hs⟩, hE⟩
  · obtain ⟨v, a, rfl, hv, ha⟩ := dps2 hd
    exact sSkip (notT (etV (edCall (aCons (edV rfl hv) (aCons (edV rfl ha) aNil)) ⟨n, g, x, tri, hx, rfl, by rw [hs]⟩))) fun H1 e1 => q .non H1 e1 .non
  · obtain ⟨v, a, rfl, hv, ha⟩ := dps2 hd
    exact etV (edCall (P := X_is_small) (d := .bool false) (aCons (edV rfl hv) (aCons (edV rfl ha) aNil)) ⟨n, g, x, tri, hx, rfl, by rw [hs]⟩) H (Ex.refl H) _ fun H1 e1 => hE H1 e1

end
end Dt

namespace Dt
open PySem L2 Evl PyProof.Rows
section
variable {P : Program} {w : World} {K : PySem.W.Frag} {mg : Str → Option Value} {base : Heap}
/-! what stays as it is: letters, turns, the side -/
theorem ok_letters_at (T : Tx K mg) : FnOk P w K mg base CX0 1 T.a_letters_at T.d_letters_at ["triangle", "spots"] (PrD K Q_letters_at) := by

  refine T.F_letters_at.ok sc_letters_at (prdLen (n := 2) fun ds d h => by obtain ⟨_, _, _, _, _, _, h, _⟩ := h; rcases h with rfl | rfl <;> rfl) (fun cdv A outer s H vs Q E hr h => ?_)
  obtain ⟨ds, d, hd, ⟨n, g, l, tri, hin, hl, hds, rfl⟩, q⟩ := h
  have hi := tri.hi
  obtain ⟨v, a, rfl, hv, sq⟩ : ∃ v a, vs = [v, a] ∧ Dp K H v (.list (triD n g)) ∧ IdD K (iSeq K (tVar 1)) (start ["triangle", "spots", "row", "place"] [v, a]) H (l.map spD) := by
    rcases hds with rfl | rfl
    · obtain ⟨v, a, rfl, hv, ha⟩ := dps2 hd
      exact ⟨v, a, rfl, hv, idSeqL (edV rfl ha)⟩
    · obtain ⟨v, a, rfl, hv, ha⟩ := dps2 hd
      exact ⟨v, a, rfl, hv, idSeqT (edV rfl ha)⟩
  refine ⟨_, (pss_one (ps_ret (pe_joinR pe_str (pe_lc (own := [("row", 2), ("place", 3)]) (g := gTup K 2 (gCons (gName 2) (gCons (gName 3) gNil))) (tt := tYes) rfl sc_letters_at.nd (pi_seq (pv 1)) (blkOk_by (N := ["triangle", "spots", "row", "place"]) (sc := defScope s_letters_at) (by decide +kernel)) (fun _ _ _ _ _ => (pg_tup rfl (pgs_cons (pg_name (i := 2) sc_letters_at.nd rfl (.inl rfl)) (pgs_cons (pg_name (i := 3) sc_letters_at.nd rfl (.inl rfl)) pgs_nil)))) (fun _ _ _ _ _ => pts_nil) (fun _ _ _ _ _ => (pe_ix (r := rIxS) ix_str (pe_ix (r := rIxL K) ix_list (pv 0) (pv 2) (fun _ _ => rfl)) (pv 3) (fun _ _ => rfl))))))), ?_⟩
  refine sRet (edIs (edJoin (a := "") (ys := (ltr g l).map fun c => (⟨#[c]⟩ : Str)) (edS ev_c) (edN (enIs (enLcA l spD (fun s => .str ⟨#[g s.1 s.2]⟩) sq (by omega) (fun _ _ => by rw [noL]) fun s hs H3 x e3 hx => ?_) (ltrSigns g l))) ?_) (by rw [joinSigns])) fun v' H3 e3 hv' => q v' H3 e3 hv'
  · obtain ⟨a1, b1, ha1, hb1, hg⟩ := tgTup2 (i := 2) (j := 3) (σ1 := wipe _ _) hx
    have hs2 := hin s hs
    exact ⟨_, hg, rfl, edIxS (edIxL (edV rfl (dpUp e3 hv)) (edV rfl ha1) (triAt (by omega))) (edV rfl hb1) (by rw [rowLen]; omega) (rowAt (by omega))⟩
  · rw [signsSum]
    unfold ltr
    rw [List.length_map, List.length_map, List.length_map]
    show l.length + l.length * 0 ≤ _
    omega
theorem ok_turn_of (T : Tx K mg) : FnOk P w K mg base CX0 2 T.a_turn_of T.d_turn_of ["triangle", "small"] (PrD K P_turn_of) := by
  have G_corners : FnOk P w K mg base CX0 1 T.a_corners T.d_corners ["small"] (PrN K Q_corners) := ok_corners T
  have G_letters_at : FnOk P w K mg base CX0 1 T.a_letters_at T.d_letters_at ["triangle", "spots"] (PrD K Q_letters_at) := ok_letters_at T
  refine T.F_turn_of.ok sc_turn_of (prdLen (n := 2) fun ds d h => by obtain ⟨_, _, _, _, _, rfl, _⟩ := h; rfl) (fun cdv A outer s H vs Q E hr h => ?_)
  obtain ⟨ds, d, hd, ⟨n, g, ⟨r, p, u⟩, tri, sm, rfl, rfl⟩, q⟩ := h
  obtain ⟨v, a, rfl, hv, ha⟩ := dps2 hd
  refine ⟨_, (pss_cons (ps_set (i := 2) sc_turn_of.nd rfl (.inl rfl) (pe_call G_letters_at (hr.mono (by decide)) (by rfl) T.g_letters_at T.F_letters_at.kp T.b_letters_at .nil pass0 (pa_cons (pv 0) (pa_cons (pe_call G_corners (hr.mono (by decide)) (by rfl) T.g_corners T.F_corners.kp T.b_corners .nil pass0 (pa_cons (pv 1) pa_nil)) pa_nil))))
    (pss_cons (ps_if (pt_cmpR (r := rIn K false) op_in_seq (pv 2) (pe_glob (v := .ref T.a_LEFT_ROUNDS) (by rfl) T.g_LEFT_ROUNDS rfl) (by with_unfolding_all rfl)) (pss_one (ps_ret pe_int)) pss_nil)
    (pss_cons (ps_if (pt_cmpR (r := rIn K false) op_in_seq (pv 2) (pe_glob (v := .ref T.a_RIGHT_ROUNDS) (by rfl) T.g_RIGHT_ROUNDS rfl) (by with_unfolding_all rfl)) (pss_one (ps_ret (pe_un un_neg pe_int))) pss_nil)
    (pss_one (ps_ret pe_int))))), ?_⟩
  have hu := isU sm
  obtain ⟨c1, c2, c3, hcs, htr⟩ := trnAs g sm
  have ok3 : Code c1 ∧ Code c2 ∧ Code c3 := by
    have all : ∀ c ∈ (crn r p u).map (fun s => g s.1 s.2), Code c := fun c hc => by
      obtain ⟨s, _, rfl⟩ := List.mem_map.mp hc
      exact tri.ok _ _
    rw [hcs] at all
    exact ⟨all _ (by simp), all _ (by simp), all _ (by simp)⟩
  have hltr : ltr g (crn r p u) = [c1, c2, c3] := hcs
  refine qAsg (d := .str (w3 c1 c2 c3)) (edCall (aCons (edV rfl hv) (aCons (edN (enIs (enCall (aCons (edV rfl ha) aNil) ⟨r, p, u, by rcases hu with h | h; exact .inl (congrArg _ h); exact .inr (congrArg _ h), rfl, rfl⟩) crnNat)) aNil)) ⟨n, g, crn r p u, tri, crnIn sm, by rw [crnLen]; decide, .inl rfl, by rw [hltr]; rfl⟩) fun t H1 e1 ht => ?_
  have inn : ∀ {H2 : Hp} {b : Bool} {xs : List Str} {a0 : Addr}, Ex H1 H2 → (∀ H, SqT K H a0 (xs.map V.str)) → inV (.str (w3 c1 c2 c3)) (xs.map V.str) = b →
      EvD K (tOp (rIn K false) (tVar 2) (tC (.ref a0))) [some v, some a, some t] H2 (.bool b) := fun {H2 b xs a0} e hk hb =>
    edIn (w := .str (w3 c1 c2 c3)) (ws := xs.map V.str) (ds := xs.map .str) (edV rfl (dpUp e ht)) (edE ev_c fun H3 => .tup (hk H3) (by
      clear hb hk
      induction xs with
      | nil => exact .nil
      | cons x xs ih => exact .cons (.str x) ih)) rfl (by rw [List.map_map, List.map_map]; rfl) rfl (by rw [List.all_map, List.all_eq_true]; exact fun _ _ => rfl) hb
  have l1 := leftIs ok3.1 ok3.2.1 ok3.2.2
  have l2 := rightIs ok3.1 ok3.2.1 ok3.2.2
  have l3 := turnIs ok3.1 ok3.2.1 ok3.2.2
  rw [htr] at q
  refine q_when (etC (inn (xs := ["abc", "bca", "cab"]) (Ex.refl _) T.k_LEFT_ROUNDS l1)) (fun hb H2 e2 => ?_) (fun hb H2 e2 => ?_)
  · rw [of_decide_eq_true hb] at q
    exact sRet (edI ev_c) fun v' H3 e3 hv' => q v' H3 ((e1.trans e2).trans e3) hv'
  · refine q_when (etC (inn (xs := ["acb", "cba", "bac"]) e2 T.k_RIGHT_ROUNDS l2)) (fun hb2 H3 e3 => ?_) (fun hb2 H3 e3 => ?_)
    · rw [of_decide_eq_true hb2] at q
      exact sRet (edI (ev_un ev_c ru_neg)) fun v' H4 e4 hv' => q v' H4 (((e1.trans e2).trans e3).trans e4) hv'
    · rcases l3 with l3 | l3 | l3
      · exact absurd l3 (of_decide_eq_false hb)
      · exact absurd l3 (of_decide_eq_false hb2)
      · rw [l3] at q
        exact sRet (edI ev_c) fun v' H4 e4 hv' => q v' H4 (((e1.trans e2).trans e3).trans e4) hv'
theorem ok_side_spots (T : Tx K mg) : FnOk P w K mg base CX0 1 T.a_side_spots T.d_side_spots ["triangle"] (PrN K Q_side_spots) := by

  refine T.F_side_spots.ok sc_side_spots (prnLen (n := 1) fun ds d h => by obtain ⟨_, _, _, rfl, _⟩ := h; rfl) (fun cdv A outer s H vs Q E hr h => ?_)
  obtain ⟨ds, es, hd, ⟨n, g, tri, rfl, rfl⟩, q⟩ := h
  obtain ⟨v, rfl, hv⟩ := dps1 hd
  refine ⟨_, (pss_cons (ps_set (i := 1) sc_side_spots.nd rfl (.inr rfl) (pe_op op_sub (pe_callB (r := lenR K) call_lenR (by rfl) T.z_len boot_len (pa_cons (pv 0) pa_nil)) pe_int))
    (pss_cons (ps_setLc (i := 2) (own := [("place", 5)]) (g := gName 5) (tt := tYes) rfl sc_side_spots.nd rfl rfl (sw_true rfl rfl rfl (by decide +kernel)) (pi_range1 (by rfl) T.z_range (pa_cons (pv 1) pa_nil)) (blkOk_by (N := ["triangle", "last", "below", "right", "left", "place", "row"]) (sc := defScope s_side_spots) (by decide +kernel)) (fun _ _ _ _ _ => (pg_name (i := 5) sc_side_spots.nd rfl (.inl rfl))) (fun _ _ _ _ _ => pts_nil) (fun _ _ _ _ _ => (pe_tup (pa_cons pe_int (pa_cons (pv 5) pa_nil)))))
    (pss_cons (ps_setLc (i := 3) (own := [("row", 6)]) (g := gName 6) (tt := tYes) rfl sc_side_spots.nd rfl rfl (sw_true rfl rfl rfl (by decide +kernel)) (pi_range1 (by rfl) T.z_range (pa_cons (pv 1) pa_nil)) (blkOk_by (N := ["triangle", "last", "below", "right", "left", "place", "row"]) (sc := defScope s_side_spots) (by decide +kernel)) (fun _ _ _ _ _ => (pg_name (i := 6) sc_side_spots.nd rfl (.inl rfl))) (fun _ _ _ _ _ => pts_nil) (fun _ _ _ _ _ => (pe_tup (pa_cons (pv 6) (pa_cons (pe_op op_sub (pv 1) (pv 6)) pa_nil)))))
    (pss_cons (ps_setLc (i := 4) (own := [("row", 6)]) (g := gName 6) (tt := tYes) rfl sc_side_spots.nd rfl rfl (sw_true rfl rfl rfl (by decide +kernel)) (pi_range3 (by rfl) T.z_range (pa_cons (pv 1) (pa_cons pe_int (pa_cons (pe_un un_neg pe_int) pa_nil)))) (blkOk_by (N := ["triangle", "last", "below", "right", "left", "place", "row"]) (sc := defScope s_side_spots) (by decide +kernel)) (fun _ _ _ _ _ => (pg_name (i := 6) sc_side_spots.nd rfl (.inl rfl))) (fun _ _ _ _ _ => pts_nil) (fun _ _ _ _ _ => (pe_tup (pa_cons (pv 6) (pa_cons pe_int pa_nil)))))
    (pss_one (ps_ret (pe_op op_cat (pe_op op_cat (pv 2) (pv 3)) (pv 4)))))))), ?_⟩
  have lo := tri.lo
  have hi := tri.hi
  have n1 : ∀ {H : Hp} {σ : L2.St} {i : Nat} {x : Int}, σ[i]? = some (some (.int x)) → EvD K (tVar i) σ H (.int x) := fun h => edV h (.int _)
  have len1 : EvD K _ (start ["triangle", "last", "below", "right", "left", "place", "row"] [v]) H _ := edI2 (K := K) (edLenL (K := K) (te := tVar 0) (edV rfl hv)) (cI 1) (g := fun i j => .int (i - j)) rfl
  rw [triLen] at len1
  refine qAsg len1 fun l H1 e1 hl => ?_
  have hl := dpInt hl
  subst hl
  have tn : ((n : Int) - 1).toNat = n - 1 := by omega
  have rg : ∀ {H : Hp} {σ : L2.St}, σ[1]? = some (some (.int ((n : Int) - 1))) → IdD K (iRng1 (tCons (tVar 1) tNil)) σ H ((List.range (n - 1)).map fun i => .int (i : Nat)) := fun {H σ} h => by
    have z := idR1 (H := H) (σ := σ) (aCons (edV (K := K) h (.int _)) aNil) (by omega) (by omega)
    rw [tn] at z
    exact z
  refine qAsgN (enLcA (List.range (n - 1)) (fun i => .int (i : Nat)) (fun p => spD (0, p)) (rg rfl) (by rw [List.length_range]; omega) (fun _ _ => spD_noL _) fun p _ H3 x e3 hx => ?_) fun p2 xs2 H2 hp2 e2 h2 d2 => ?_
  · have hx := dpInt hx
    subst hx
    exact ⟨_, tgName, rfl, edTup (aCons (edI ev_c) (aCons (n1 rfl) aNil)) (Nat.le_of_ble_eq_true rfl)⟩
  refine qAsgN (enLcA (List.range (n - 1)) (fun i => .int (i : Nat)) (fun r => spD (r, n - 1 - r)) (rg rfl) (by rw [List.length_range]; omega) (fun _ _ => spD_noL _) fun r hr H3 x e3 hx => ?_) fun p3 xs3 H3 hp3 e3 h3 d3 => ?_
  · have hx := dpInt hx
    subst hx
    rw [List.mem_range] at hr
    refine ⟨_, tgName, rfl, edIs (edTup (aCons (n1 rfl) (aCons (edI2 (n1 rfl) (n1 rfl) rfl) aNil)) (Nat.le_of_ble_eq_true rfl)) ?_⟩
    show PyData.tuple [.int (r : Nat), .int ((n : Int) - 1 - (r : Nat))] = .tuple [.int (r : Nat), .int ((n - 1 - r : Nat) : Int)]
    rw [show ((n - 1 - r : Nat) : Int) = (n : Int) - 1 - (r : Nat) by omega]
  have rg3 : ∀ {H : Hp} {σ : L2.St}, σ[1]? = some (some (.int ((n : Int) - 1))) → IdD K (iRng3 (tCons (tVar 1) (tCons (tC (.int 0)) (tCons (tUn (rU fun i => .int (-i)) (tC (.int 1))) tNil)))) σ H ((List.range (n - 1)).map fun k => .int ((n - 1 - k : Nat) : Int)) := fun {H σ} h => by
    have z := idR3 (H := H) (σ := σ) (aCons (edV (K := K) h (.int _)) (aCons (edI (ev_c (v := .int 0))) (aCons (edI (ev_un (ev_c (v := .int 1)) ru_neg)) aNil))) (RgC.neg (i := (n : Int) - 1) (j := 0) (by omega) (by omega) (by omega) (by omega))
    refine idIs z ?_
    rw [show ((n : Int) - 1 - 0).toNat = n - 1 by omega]
    refine List.map_congr_left fun k hk => ?_
    rw [List.mem_range] at hk
    rw [show (n : Int) - 1 + (k : Nat) * -1 = ((n - 1 - k : Nat) : Int) by omega]
  refine qAsgN (enLcA (List.range (n - 1)) (fun k => .int ((n - 1 - k : Nat) : Int)) (fun k => spD (n - 1 - k, 0)) (rg3 rfl) (by rw [List.length_range]; omega) (fun _ _ => spD_noL _) fun k _ H3 x e3 hx => ?_) fun p4 xs4 H4 hp4 e4 h4 d4 => ?_
  · have hx := dpInt hx
    subst hx
    exact ⟨_, tgName, rfl, edTup (aCons (n1 rfl) (aCons (edI ev_c) aNil)) (Nat.le_of_ble_eq_true rfl)⟩
  refine sRetN (enIs (enCatNV (enCatV (i := 2) (j := 3) rfl rfl (e4 _ _ (e3 _ _ h2)) (e4 _ _ h3) (dpsUp (e3.trans e4) d2) (dpsUp e4 d3) ?_) (j := 4) rfl h4 d4 ?_) ?_) fun l xs H5 hl e5 h5 h6 => q l xs H5 (fresh_back (((e1.trans e2).trans e3).trans e4) hl) ((((e1.trans e2).trans e3).trans e4).trans e5) h5 h6
  · rw [List.length_map, List.length_map, List.length_range]
    omega
  · rw [List.length_append, List.length_map, List.length_map, List.length_map, List.length_range]
    omega
  · unfold spots
    rw [List.map_append, List.map_append, List.map_map, List.map_map, List.map_map]
    rfl
theorem ok_side_steps (T : Tx K mg) : FnOk P w K mg base CX0 2 T.a_side_steps T.d_side_steps ["triangle"] (PrN K Q_side_steps) := by
  have G_side_spots : FnOk P w K mg base CX0 1 T.a_side_spots T.d_side_spots ["triangle"] (PrN K Q_side_spots) := ok_side_spots T
  refine T.F_side_steps.ok sc_side_steps (prnLen (n := 1) fun ds d h => by obtain ⟨_, _, _, rfl, _⟩ := h; rfl) (fun cdv A outer s H vs Q E hr h => ?_)
  obtain ⟨ds, es, hd, ⟨n, g, tri, rfl, rfl⟩, q⟩ := h
  obtain ⟨v, rfl, hv⟩ := dps1 hd
  refine ⟨_, (pss_cons (ps_set (i := 1) sc_side_steps.nd rfl (.inl rfl) (pe_call G_side_spots (hr.mono (by decide)) (by rfl) T.g_side_spots T.F_side_spots.kp T.b_side_spots .nil pass0 (pa_cons (pv 0) pa_nil)))
    (pss_one (ps_ret (pe_listZip rfl (by rfl) T.z_list (by rfl) T.z_zip (pa_cons (pv 1) (pa_cons (pe_op op_cat (pe_slice (r := rSlL K) sl_list (pv 1) (po_some pe_int) po_none) (pe_slice (r := rSlL K) sl_list (pv 1) po_none (po_some pe_int))) pa_nil)))))), ?_⟩
  have lo := tri.lo
  have hi := tri.hi
  refine qAsg (edN (enCall (aCons (edV rfl hv) aNil) ⟨n, g, tri, rfl, rfl⟩)) fun l H1 e1 hl => ?_
  refine sRetN (enIs (enListZip (aCons (edV rfl hl) (aCons (edN (enCat (enCut (edV rfl hl) (eo_some ev_c) eo_none) (enCut (edV rfl hl) eo_none (eo_some ev_c)) ?_)) aNil))) ?_) fun l xs H5 hl e5 h5 h6 => q l xs H5 (fresh_back e1 hl) (e1.trans e5) h5 h6
  · rw [cut1D, cutTo1D, List.length_drop, List.length_take, List.length_map, spotsLen]
    omega
  · rw [cut1D, cutTo1D, ← List.map_drop, ← List.map_take, ← List.map_append, List.zipWith_map]
    unfold steps rotP
    rw [List.zip_eq_zipWith, List.map_zipWith]
    rfl
theorem ok_is_door (T : Tx K mg) : FnOk P w K mg base CX0 2 T.a_is_door T.d_is_door ["triangle", "step"] (PrD K Q_is_door) := by
  have G_letters_at : FnOk P w K mg base CX0 1 T.a_letters_at T.d_letters_at ["triangle", "spots"] (PrD K Q_letters_at) := ok_letters_at T
  refine T.F_is_door.ok sc_is_door (prdLen (n := 2) fun ds d h => by obtain ⟨_, _, _, _, _, _, rfl, _⟩ := h; rfl) (fun cdv A outer s H vs Q E hr h => ?_)
  obtain ⟨ds, d, hd, ⟨n, g, ⟨s1, s2⟩, tri, h1, h2, rfl, rfl⟩, q⟩ := h
  obtain ⟨v, a, rfl, hv, ha⟩ := dps2 hd
  refine ⟨_, (pss_one (ps_ret (pe_cmpR (r := rIn K false) op_in_seq (pe_call G_letters_at (hr.mono (by decide)) (by rfl) T.g_letters_at T.F_letters_at.kp T.b_letters_at .nil pass0 (pa_cons (pv 0) (pa_cons (pv 1) pa_nil))) (pe_glob (v := .ref T.a_DOOR_STEPS) (by rfl) T.g_DOOR_STEPS rfl) (by with_unfolding_all rfl)))), ?_⟩
  have hstr : sOf (ltr g [s1, s2]) = ⟨#[(stC g (s1, s2)).1, (stC g (s1, s2)).2]⟩ := rfl
  exact sRet (edIn (w := .str ⟨#[(stC g (s1, s2)).1, (stC g (s1, s2)).2]⟩) (ws := [.str "ab", .str "ba"]) (ds := [.str "ab", .str "ba"]) (edIs (edCall (aCons (edV rfl hv) (aCons (edV rfl ha) aNil)) ⟨n, g, [s1, s2], tri, fun s hs => by
      rcases List.mem_cons.mp hs with rfl | hs
      · exact h1
      · rw [List.mem_singleton] at hs
        subst hs
        exact h2, by show 2 ≤ 10; decide, .inr rfl, rfl⟩) (by rw [hstr])) (edE ev_c fun H1 => .tup (T.k_DOOR_STEPS H1) (.cons (.str _) (.cons (.str _) .nil))) rfl rfl rfl rfl (inAB _ ⟨tri.ok _ _, tri.ok _ _⟩)) fun v' H3 e3 hv' => q v' H3 e3 hv'

end
end Dt

namespace Dt
open PySem L2 Evl PyProof.Rows
section
variable {P : Program} {w : World} {K : PySem.W.Frag} {mg : Str → Option Value} {base : Heap}
/-! the doors of the program: what is refused -/
theorem ok_fulls (T : Tx K mg) : FnOk P w K mg base (L2.CX P w) 4 T.a_fulls T.d_fulls ["triangle"] (SpX SpN (BadT K T.C_BadTriangle 1)) := by
  have G_check_triangle : FnOk P w K mg base (L2.CX P w) 3 T.a_check_triangle T.d_check_triangle ["triangle"] (SpX (NChk K) (BadT K T.C_BadTriangle 1)) := ok_check_triangle T
  refine T.F_fulls.okX sc_fulls (spxLen lenN lenBad) (fun cdv A outer s H vs Q E hr h => ?_)
  refine ⟨_, (pss_cons (ps_expr (pe_callS G_check_triangle (hr.mono (by decide)) (by rfl) T.g_check_triangle T.F_check_triangle.kp T.b_check_triangle (fun σ => passAt (takes_of rfl rfl rfl rfl) σ) (pa_cons (pv 0) pa_nil))) pss_dead), ?_⟩
  rcases h with h | ⟨C, ⟨rfl, hl, v, ws, rfl, hv⟩, hE⟩
  · exact h.elim
  · match ws, hl with
    | [], _ => exact qDropR (nvChkT (evVar triUp rfl hv) hE)
theorem ok_around (T : Tx K mg) : FnOk P w K mg base (L2.CX P w) 4 T.a_around T.d_around ["triangle"] (SpX SpN (BadT K T.C_BadTriangle 1)) := by
  have G_check_triangle : FnOk P w K mg base (L2.CX P w) 3 T.a_check_triangle T.d_check_triangle ["triangle"] (SpX (NChk K) (BadT K T.C_BadTriangle 1)) := ok_check_triangle T
  refine T.F_around.okX sc_around (spxLen lenN lenBad) (fun cdv A outer s H vs Q E hr h => ?_)
  refine ⟨_, (pss_cons (ps_expr (pe_callS G_check_triangle (hr.mono (by decide)) (by rfl) T.g_check_triangle T.F_check_triangle.kp T.b_check_triangle (fun σ => passAt (takes_of rfl rfl rfl rfl) σ) (pa_cons (pv 0) pa_nil))) pss_dead), ?_⟩
  rcases h with h | ⟨C, ⟨rfl, hl, v, ws, rfl, hv⟩, hE⟩
  · exact h.elim
  · match ws, hl with
    | [], _ => exact qDropR (nvChkT (evVar triUp rfl hv) hE)
theorem ok_told (T : Tx K mg) : FnOk P w K mg base (L2.CX P w) 4 T.a_told T.d_told ["triangle"] (SpX SpN (BadT K T.C_BadTriangle 1)) := by
  have G_check_triangle : FnOk P w K mg base (L2.CX P w) 3 T.a_check_triangle T.d_check_triangle ["triangle"] (SpX (NChk K) (BadT K T.C_BadTriangle 1)) := ok_check_triangle T
  refine T.F_told.okX sc_told (spxLen lenN lenBad) (fun cdv A outer s H vs Q E hr h => ?_)
  refine ⟨_, (pss_cons (ps_expr (pe_callS G_check_triangle (hr.mono (by decide)) (by rfl) T.g_check_triangle T.F_check_triangle.kp T.b_check_triangle (fun σ => passAt (takes_of rfl rfl rfl rfl) σ) (pa_cons (pv 0) pa_nil))) pss_dead), ?_⟩
  rcases h with h | ⟨C, ⟨rfl, hl, v, ws, rfl, hv⟩, hE⟩
  · exact h.elim
  · match ws, hl with
    | [], _ => exact qDropR (nvChkT (evVar triUp rfl hv) hE)
theorem ok_doors (T : Tx K mg) : FnOk P w K mg base (L2.CX P w) 4 T.a_doors T.d_doors ["triangle"] (SpX (PrN K P_doors) (BadT K T.C_BadTriangle 1)) := by
  have G_check_triangle : FnOk P w K mg base (L2.CX P w) 3 T.a_check_triangle T.d_check_triangle ["triangle"] (SpX (NChk K) (BadT K T.C_BadTriangle 1)) := ok_check_triangle T
  have G_side_steps : FnOk P w K mg base CX0 2 T.a_side_steps T.d_side_steps ["triangle"] (PrN K Q_side_steps) := ok_side_steps T
  have G_is_door : FnOk P w K mg base CX0 2 T.a_is_door T.d_is_door ["triangle", "step"] (PrD K Q_is_door) := ok_is_door T
  refine T.F_doors.okX sc_doors (spxLen (prnLen (n := 1) fun ds d h => by obtain ⟨_, _, _, rfl, _⟩ := h; rfl) lenBad) (fun cdv A outer s H vs Q E hr h => ?_)
  refine ⟨_, (pss_cons (ps_expr (pe_callS G_check_triangle (hr.mono (by decide)) (by rfl) T.g_check_triangle T.F_check_triangle.kp T.b_check_triangle (fun σ => passAt (takes_of rfl rfl rfl rfl) σ) (pa_cons (pv 0) pa_nil)))
    (pss_one (ps_ret (pe_lc (own := [("at", 1), ("step", 2)]) (g := gTup K 2 (gCons (gName 1) (gCons (gName 2) gNil))) (tt := _) rfl sc_doors.nd (pi_enum (by rfl) T.z_enumerate (pa_cons (pe_call G_side_steps (hr.mono (by decide)) (by rfl) T.g_side_steps T.F_side_steps.kp T.b_side_steps .nil pass0 (pa_cons (pv 0) pa_nil)) pa_nil)) (blkOk_by (N := ["triangle", "at", "step"]) (sc := defScope s_doors) (by decide +kernel)) (fun _ _ _ _ _ => (pg_tup rfl (pgs_cons (pg_name (i := 1) sc_doors.nd rfl (.inl rfl)) (pgs_cons (pg_name (i := 2) sc_doors.nd rfl (.inl rfl)) pgs_nil)))) (fun _ _ _ _ _ => pts_one (pt_val (pe_call G_is_door (hr.mono (by decide)) (by rfl) T.g_is_door T.F_is_door.kp T.b_is_door .nil pass0 (pa_cons (pv 0) (pa_cons (pv 2) pa_nil))))) (fun _ _ _ _ _ => (pv 1)))))), ?_⟩
  rcases h with ⟨ds, es, hd, ⟨n, g, tri, rfl, rfl⟩, q⟩ | ⟨C, ⟨rfl, hl, v, ws, rfl, hv⟩, hE⟩
  · obtain ⟨v, rfl, hv⟩ := dps1 hd
    have lo := tri.lo
    have hi := tri.hi
    have sl := stepsLen n
    refine qDrop (edChk (evVar triUp rfl (triV_of tri hv))) fun H1 e1 => ?_
    refine sRetN (enIs (enLc (List.range (steps n).length) (fun i => .tuple [.int (i : Nat), stD ((steps n).getD i ((0, 0), 0, 0))]) (fun i => drB g ((steps n).getD i ((0, 0), 0, 0))) (fun i => .int (i : Nat)) (idIs (idEnum (aCons (edN (enCall (aCons (edV rfl (dpUp e1 hv)) aNil) ⟨n, g, tri, rfl, rfl⟩)) aNil)) ?_) (by rw [List.length_range]; omega) (fun _ _ _ => by rw [noL]) fun i hi H2 x e2 hx => ?_) ?_) fun l xs H5 hl e5 h5 h6 => q l xs H5 (fresh_back e1 hl) (e1.trans e5) h5 h6
    · rw [mapIdxGet (stD ((0, 0), 0, 0)), List.length_map]
      refine List.map_congr_left fun i hi => ?_
      rw [List.mem_range] at hi
      rw [List.getD_eq_getElem?_getD, List.getD_eq_getElem?_getD, List.getElem?_map, List.getElem?_eq_getElem hi]
      rfl
    · rw [List.mem_range] at hi
      obtain ⟨a1, b1, ha1, hb1, hg⟩ := tgTup2 (σ1 := wipe _ _) hx
      have hm : (steps n).getD i ((0, 0), 0, 0) ∈ steps n := by
        rw [List.getD_eq_getElem?_getD, List.getElem?_eq_getElem hi]
        exact List.getElem_mem hi
      obtain ⟨k1, k2⟩ := stepsIn lo _ hm
      exact ⟨_, hg, rfl, etV (edCall (aCons (edV rfl (dpUp (e1.trans e2) hv)) (aCons (edV rfl hb1) aNil)) ⟨n, g, _, tri, k1, k2, rfl, rfl⟩), fun _ => edV rfl ha1⟩
    · unfold doorsOf
      rw [← stepsPairs, List.length_map]
      refine congrArg (List.map _) (List.filter_congr fun i hi => ?_)
      rw [List.mem_range] at hi
      unfold drB
      have e : ((steps n).map (stC g)).getD i (0, 0) = stC g ((steps n).getD i ((0, 0), 0, 0)) := by
        rw [List.getD_eq_getElem?_getD, List.getD_eq_getElem?_getD, List.getElem?_map, List.getElem?_eq_getElem hi]
        rfl
      rw [e]
  · match ws, hl with
    | [], _ => exact qDropR (nvChkT (evVar triUp rfl hv) hE)
theorem ok_turn (T : Tx K mg) : FnOk P w K mg base (L2.CX P w) 5 T.a_turn T.d_turn ["triangle", "small"] (SpX (PrD K P_turn_of) (ROr (BadT K T.C_BadTriangle 2) (RSmall K T.C_BadSmall))) := by
  have G_check_triangle : FnOk P w K mg base (L2.CX P w) 3 T.a_check_triangle T.d_check_triangle ["triangle"] (SpX (NChk K) (BadT K T.C_BadTriangle 1)) := ok_check_triangle T
  have G_check_small : FnOk P w K mg base (L2.CX P w) 4 T.a_check_small T.d_check_small ["triangle", "small"] (SpX (PrD K P_chkSmall) (RSmall K T.C_BadSmall)) := ok_check_small T
  have G_turn_of : FnOk P w K mg base CX0 2 T.a_turn_of T.d_turn_of ["triangle", "small"] (PrD K P_turn_of) := ok_turn_of T
  refine T.F_turn.okX sc_turn (spxLen (prdLen (n := 2) fun ds d h => by obtain ⟨_, _, _, _, _, rfl, _⟩ := h; rfl) (lenOr lenBad lenSmall)) (fun cdv A outer s H vs Q E hr h => ?_)
  refine ⟨_, (pss_cons (ps_expr (pe_callS G_check_triangle (hr.mono (by decide)) (by rfl) T.g_check_triangle T.F_check_triangle.kp T.b_check_triangle (fun σ => passAt (takes_of rfl rfl rfl rfl) σ) (pa_cons (pv 0) pa_nil)))
    (pss_cons (ps_expr (pe_callS G_check_small (hr.mono (by decide)) (by rfl) T.g_check_small T.F_check_small.kp T.b_check_small (fun σ => passAt (takes_of rfl rfl rfl rfl) σ) (pa_cons (pv 0) (pa_cons (pv 1) pa_nil))))
    (pss_one (ps_ret (pe_call G_turn_of (hr.mono (by decide)) (by rfl) T.g_turn_of T.F_turn_of.kp T.b_turn_of .nil pass0 (pa_cons (pv 0) (pa_cons (pv 1) pa_nil))))))), ?_⟩
  rcases h with ⟨ds, d, hd, ⟨n, g, ⟨r, p, u⟩, tri, hs, rfl, rfl⟩, q⟩ | ⟨C, ⟨rfl, hl, v, ws, rfl, hv⟩ | ⟨rfl, n, g, x, tri, hx, hd, hs⟩, hE⟩
  · obtain ⟨v, a, rfl, hv, ha⟩ := dps2 hd
    refine qDrop (edChk (evVar triUp rfl (triV_of tri hv))) fun H1 e1 => ?_
    have hv1 := dpUp e1 hv
    have ha1 := dpUp e1 ha
    refine qDrop (edCallS (aCons (edV rfl hv1) (aCons (edV rfl ha1) aNil)) ⟨n, g, smD (r, p, u), tri, smGood hs, rfl, rfl⟩) fun H2 e2 => ?_
    exact sRet (edCall (aCons (edV rfl (dpUp e2 hv1)) (aCons (edV rfl (dpUp e2 ha1)) aNil)) ⟨n, g, (r, p, u), tri, hs, rfl, rfl⟩) fun v' H3 e3 hv' => q v' H3 ((e1.trans e2).trans e3) hv'
  · match ws, hl with
    | [a], _ => exact qDropR (nvChkT (evVar triUp rfl hv) hE)
  · obtain ⟨v, a, rfl, hv, ha⟩ := dps2 hd
    refine qDrop (edChk (evVar triUp rfl (triV_of tri hv))) fun H1 e1 => ?_
    exact qDropR (nvD (aCons (edV rfl (dpUp e1 hv)) (aCons (edV rfl (dpUp e1 ha)) aNil)) (fun vs H2 hd => ⟨rfl, n, g, x, tri, hx, hd, hs⟩) fun H2 e2 => hE H2 (e1.trans e2))
theorem ok_walk_out (T : Tx K mg) : FnOk P w K mg base (L2.CX P w) 5 T.a_walk_out T.d_walk_out ["triangle", "small"] (SpX SpN (ROr (BadT K T.C_BadTriangle 2) (ROr (RSmall K T.C_BadSmall) (RFlat K T.C_BadSmall)))) := by
  have G_check_triangle : FnOk P w K mg base (L2.CX P w) 3 T.a_check_triangle T.d_check_triangle ["triangle"] (SpX (NChk K) (BadT K T.C_BadTriangle 1)) := ok_check_triangle T
  have G_check_small : FnOk P w K mg base (L2.CX P w) 4 T.a_check_small T.d_check_small ["triangle", "small"] (SpX (PrD K P_chkSmall) (RSmall K T.C_BadSmall)) := ok_check_small T
  have G_turn_of : FnOk P w K mg base CX0 2 T.a_turn_of T.d_turn_of ["triangle", "small"] (PrD K P_turn_of) := ok_turn_of T
  refine T.F_walk_out.okX sc_walk_out (spxLen lenN (lenOr lenBad (lenOr lenSmall lenFlat))) (fun cdv A outer s H vs Q E hr h => ?_)
  refine ⟨_, (pss_cons (ps_expr (pe_callS G_check_triangle (hr.mono (by decide)) (by rfl) T.g_check_triangle T.F_check_triangle.kp T.b_check_triangle (fun σ => passAt (takes_of rfl rfl rfl rfl) σ) (pa_cons (pv 0) pa_nil)))
    (pss_cons (ps_expr (pe_callS G_check_small (hr.mono (by decide)) (by rfl) T.g_check_small T.F_check_small.kp T.b_check_small (fun σ => passAt (takes_of rfl rfl rfl rfl) σ) (pa_cons (pv 0) (pa_cons (pv 1) pa_nil))))
    (pss_cons (ps_if (pt_cmpR (r := rEqD K) (op_eqD hr.units) (pe_call G_turn_of (hr.mono (by decide)) (by rfl) T.g_turn_of T.F_turn_of.kp T.b_turn_of .nil pass0 (pa_cons (pv 0) (pa_cons (pv 1) pa_nil))) pe_int (nomark _)) (pss_one (ps_raiseC rfl (takes_of rfl rfl rfl rfl) T.x_BadSmall T.g_BadSmall rfl)) pss_nil) pss_dead))), ?_⟩
  rcases h with h | ⟨C, ⟨rfl, hl, v, ws, rfl, hv⟩ | ⟨rfl, n, g, x, tri, hx, hd, hs⟩ | ⟨rfl, n, g, ⟨r, p, u⟩, tri, hs, hd, h0⟩, hE⟩
  · exact h.elim
  · match ws, hl with
    | [a], _ => exact qDropR (nvChkT (evVar triUp rfl hv) hE)
  · obtain ⟨v, a, rfl, hv, ha⟩ := dps2 hd
    refine qDrop (edChk (evVar triUp rfl (triV_of tri hv))) fun H1 e1 => ?_
    exact qDropR (nvD (aCons (edV rfl (dpUp e1 hv)) (aCons (edV rfl (dpUp e1 ha)) aNil)) (fun vs H2 hd => ⟨rfl, n, g, x, tri, hx, hd, hs⟩) fun H2 e2 => hE H2 (e1.trans e2))
  · obtain ⟨v, a, rfl, hv, ha⟩ := dps2 hd
    refine qDrop (edChk (evVar triUp rfl (triV_of tri hv))) fun H1 e1 => ?_
    have hv1 := dpUp e1 hv
    have ha1 := dpUp e1 ha
    refine qDrop (edCallS (aCons (edV rfl hv1) (aCons (edV rfl ha1) aNil)) ⟨n, g, smD (r, p, u), tri, smGood hs, rfl, rfl⟩) fun H2 e2 => ?_
    exact q_when (b := true) (et_is (etC (edEqI (edCall (aCons (edV rfl (dpUp e2 hv1)) (aCons (edV rfl (dpUp e2 ha1)) aNil)) ⟨n, g, (r, p, u), tri, hs, rfl, rfl⟩) (edI ev_c))) (decide_eq_true h0)) (fun _ H3 e3 => hE H3 ((e1.trans e2).trans e3)) (fun z => nomatch z)
theorem ok_walk (T : Tx K mg) : FnOk P w K mg base (L2.CX P w) 5 T.a_walk T.d_walk ["triangle", "door"] (SpX SpN (ROr (BadT K T.C_BadTriangle 2) (RDoor K T.C_BadDoor))) := by
  have G_is_number : FnOk P w K mg base CX0 1 T.a_is_number T.d_is_number ["value"] (PrD K X_is_number) := ok_is_number T
  have G_check_triangle : FnOk P w K mg base (L2.CX P w) 3 T.a_check_triangle T.d_check_triangle ["triangle"] (SpX (NChk K) (BadT K T.C_BadTriangle 1)) := ok_check_triangle T
  have G_doors : FnOk P w K mg base (L2.CX P w) 4 T.a_doors T.d_doors ["triangle"] (SpX (PrN K P_doors) (BadT K T.C_BadTriangle 1)) := ok_doors T
  refine T.F_walk.okX sc_walk (spxLen lenN (lenOr lenBad lenDoor)) (fun cdv A outer s H vs Q E hr h => ?_)
  refine ⟨_, (pss_cons (ps_expr (pe_callS G_check_triangle (hr.mono (by decide)) (by rfl) T.g_check_triangle T.F_check_triangle.kp T.b_check_triangle (fun σ => passAt (takes_of rfl rfl rfl rfl) σ) (pa_cons (pv 0) pa_nil)))
    (pss_cons (ps_if (PW.pt (pw_or (pt_not (pt_val (pe_call G_is_number (hr.mono (by decide)) (by rfl) T.g_is_number T.F_is_number.kp T.b_is_number .nil pass0 (pa_cons (pv 1) pa_nil)))) (pw_or1 (pt_cmpR (r := rIn K true) op_notIn_seq (pv 1) (pe_callS G_doors (hr.mono (by decide)) (by rfl) T.g_doors T.F_doors.kp T.b_doors (fun σ => passAt (takes_of rfl rfl rfl rfl) σ) (pa_cons (pv 0) pa_nil)) (by with_unfolding_all rfl))))) (pss_one (ps_raiseC rfl (takes_of rfl rfl rfl rfl) T.x_BadDoor T.g_BadDoor rfl)) pss_nil) pss_dead)), ?_⟩
  rcases h with h | ⟨C, ⟨rfl, hl, v, ws, rfl, hv⟩ | ⟨rfl, n, g, x, tri, hd, hx⟩, hE⟩
  · exact h.elim
  · match ws, hl with
    | [a], _ => exact qDropR (nvChkT (evVar triUp rfl hv) hE)
  · obtain ⟨v, a, rfl, hv, ha⟩ := dps2 hd
    refine qDrop (edChk (evVar triUp rfl (triV_of tri hv))) fun H1 e1 => ?_
    have hv1 := dpUp e1 hv
    have ha1 := dpUp e1 ha
    refine q_when (b := true) (et_is (b := true) (et_or (a := !isNumD x) (b := true) (et_not (etV (edCall (aCons (edV rfl ha1) aNil) ⟨x, rfl, rfl⟩))) fun hn => ?_) (Bool.or_true _)) (fun _ H2 e2 => hE H2 (e1.trans e2)) (fun z => nomatch z)
    obtain ⟨i, rfl⟩ := numI ((Bool.not_eq_false' _).mp hn)
    refine etC (edInL (neg := true) (b := true) (w := .int i) (ws := (doorsOf (pairs (codes n g))).map fun j => .int (j : Nat)) (edV rfl ha1) (edN (enCallS (aCons (edV rfl hv1) aNil) ⟨n, g, tri, rfl, rfl⟩)) rfl (by rw [List.map_map, List.map_map]; rfl) rfl (by rw [List.all_map, List.all_eq_true]; exact fun _ _ => rfl) ?_)
    show (!inV (.int i) _) = true
    rw [Bool.not_eq_true']
    exact notInI fun j hj => hx i rfl j hj

end
end Dt

namespace Dt
open PySem L2 Evl PyProof.Rows
section
variable {P : Program} {w : World} {K : PySem.W.Frag} {mg : Str → Option Value} {base : Heap}
/-! put -/
theorem ok_put (T : Tx K mg) : FnOk P w K mg base (L2.CX P w) 4 T.a_put T.d_put ["triangle", "row", "place", "letter"] (SpX (PrN K P_put) (ROr (BadT K T.C_BadTriangle 4) (RSpot K T.C_BadSpot))) := by
  have G_is_letter : FnOk P w K mg base CX0 1 T.a_is_letter T.d_is_letter ["value"] (PrD K X_is_letter) := ok_is_letter T
  have G_is_spot : FnOk P w K mg base CX0 2 T.a_is_spot T.d_is_spot ["triangle", "row", "place"] (PrD K X_is_spot) := ok_is_spot T
  have G_check_triangle : FnOk P w K mg base (L2.CX P w) 3 T.a_check_triangle T.d_check_triangle ["triangle"] (SpX (NChk K) (BadT K T.C_BadTriangle 1)) := ok_check_triangle T
  refine T.F_put.okX sc_put (spxLen (prnLen (n := 4) fun ds d h => by obtain ⟨_, _, _, _, _, _, _, _, rfl, _⟩ := h; rfl) (lenOr lenBad lenSpot)) (fun cdv A outer s H vs Q E hr h => ?_)
  refine ⟨_, (pss_cons (ps_expr (pe_callS G_check_triangle (hr.mono (by decide)) (by rfl) T.g_check_triangle T.F_check_triangle.kp T.b_check_triangle (fun σ => passAt (takes_of rfl rfl rfl rfl) σ) (pa_cons (pv 0) pa_nil)))
    (pss_cons (ps_if (pt_not (pt_val (pe_call G_is_spot (hr.mono (by decide)) (by rfl) T.g_is_spot T.F_is_spot.kp T.b_is_spot .nil pass0 (pa_cons (pv 0) (pa_cons (pv 1) (pa_cons (pv 2) pa_nil)))))) (pss_one (ps_raiseC rfl (takes_of rfl rfl rfl rfl) T.x_BadSpot T.g_BadSpot rfl)) pss_nil)
    (pss_cons (ps_if (pt_not (pt_val (pe_call G_is_letter (hr.mono (by decide)) (by rfl) T.g_is_letter T.F_is_letter.kp T.b_is_letter .nil pass0 (pa_cons (pv 3) pa_nil)))) (pss_one (ps_raiseC rfl (takes_of rfl rfl rfl rfl) T.x_BadSpot T.g_BadSpot rfl)) pss_nil)
    (pss_cons (ps_set (i := 4) sc_put.nd rfl (.inl rfl) (pe_callTy (r := rListS K) call_listR (by rfl) T.z_list boot_list (pa_cons (pv 0) pa_nil)))
    (pss_cons (ps_asg (pe_op op_addS (pe_op op_addS (pe_slice (r := rSlS) sl_str (pe_ix (r := rIxL K) ix_list (pv 4) (pv 1) (fun _ _ => rfl)) po_none (po_some (pv 2))) (pv 3)) (pe_slice (r := rSlS) sl_str (pe_ix (r := rIxL K) ix_list (pv 4) (pv 1) (fun _ _ => rfl)) (po_some (pe_op op_add (pv 2) pe_int)) po_none)) (pg_sub (pv 4) (pv 1) set_list))
    (pss_one (ps_ret (pv 4)))))))), ?_⟩
  rcases h with ⟨ds, es, hd, ⟨n, g, r, p, c, tri, hrp, hc, rfl, rfl⟩, q⟩ | ⟨C, ⟨rfl, hl, v, ws, rfl, hv⟩ | ⟨rfl, n, g, x, y, z, tri, hz, hd, hk⟩, hE⟩
  · obtain ⟨v, a, b, l, rfl, hv, ha, hb, hl⟩ := dps4 hd
    have hi := tri.hi
    have ha := dpInt ha
    have hb := dpInt hb
    have hl := dpStr hl
    subst ha hb hl
    have n1 : ∀ {H : Hp} {σ : L2.St} {i : Nat} {x : Int}, σ[i]? = some (some (.int x)) → EvD K (tVar i) σ H (.int x) := fun h => edV h (.int _)
    have s1 : ∀ {H : Hp} {σ : L2.St} {i : Nat} {x : Str}, σ[i]? = some (some (.str x)) → EvD K (tVar i) σ H (.str x) := fun h => edV h (.str _)
    refine qDrop (edChk (evVar triUp rfl (triV_of tri hv))) fun H1 e1 => ?_
    have hv1 := dpUp e1 hv
    refine qSkip (notT (etV (edCall (aCons (edV rfl hv1) (aCons (n1 rfl) (aCons (n1 rfl) aNil))) ⟨n, g, .int (r : Nat), .int (p : Nat), tri, rfl, congrArg PyData.bool (decide_eq_true ⟨by omega, by omega, by omega⟩).symm⟩))) fun H2 e2 => ?_
    have hv2 := dpUp e2 hv1
    refine qSkip (notT (etV (edCall (aCons (s1 rfl) aNil) ⟨.str ⟨#[c]⟩, oneShort c, rfl, congrArg PyData.bool (letGood hc).symm⟩))) fun H3 e3 => ?_
    have hv3 := dpUp e3 hv2
    refine qAsgN (enList (edV rfl hv3)) fun l xs H4 hlz e4 h4 d4 => ?_
    have row : EvD K (tOp (rIxL K) (tVar 4) (tVar 1)) [some v, some (.int (r : Nat)), some (.int (p : Nat)), some (.str ⟨#[c]⟩), some (.ref l)] H4 (.str (sOf ((List.range (n - r)).map (g r)))) := edIxL (edV rfl (dpOfL h4 d4)) (n1 rfl) (triAt (by omega))
    have rl : ((List.range (n - r)).map (g r)).length = n - r := by rw [List.length_map, List.length_range]
    have lt := edCutS row eo_none (eo_some (i := (p : Nat)) (ev_var (i := 2) rfl)) (by rw [sOfLen, rl]; omega)
    have rt := edCutS row (eo_some (evI (edI2 (n1 (i := 2) rfl) (cI 1) (g := fun i j => .int (i + j)) (k := ((p + 1 : Nat) : Int)) rfl))) eo_none (by rw [sOfLen, rl]; omega)
    rw [cutSTo] at lt
    rw [cutSFrom] at rt
    have mid := edAddS lt (s1 (i := 3) (x := sOf [c]) rfl) (by rw [sOfLen, sOfLen, List.length_take, rl]; simp; omega)
    rw [sOfApp] at mid
    have all := edAddS mid rt (by rw [sOfLen, sOfLen, List.length_append, List.length_take, List.length_drop, rl]; simp; omega)
    rw [sOfApp, putRow (by omega)] at all
    refine q_setL h4 (evS all) (ev_var rfl) (ev_var rfl) (by rw [dpsLen d4, triLen]; omega) fun H5 e5 => ?_
    have d5 := dpsTups (tupsMut (ys := xs.set r (.str (rowS n (putG g r p c) r))) (e5 _ _ h4)) (dpsUp e5 d4) (triNoL n g)
    have d6 := dpsSet r d5 (.str (rowS n (putG g r p c) r))
    rw [putTriD (by omega)] at d6
    exact ⟨.ref l, rfl, q l _ _ (fresh_back ((e1.trans e2).trans e3) hlz) ((((e1.trans e2).trans e3).trans (e4.trans e5)).mut (fresh_back ((e1.trans e2).trans e3) hlz)) upd_same d6⟩
  · match ws, hl with
    | [a, b, c], _ => exact qDropR (nvChkT (evVar triUp rfl hv) hE)
  · obtain ⟨v, a, b, l, rfl, hv, ha, hb, hl⟩ := dps4 hd
    refine qDrop (edChk (evVar triUp rfl (triV_of tri hv))) fun H1 e1 => ?_
    have hv1 := dpUp e1 hv
    refine q_when (et_not (etV (edCall (aCons (edV rfl hv1) (aCons (edV rfl (dpUp e1 ha)) (aCons (edV rfl (dpUp e1 hb)) aNil))) ⟨n, g, x, y, tri, rfl, rfl⟩))) (fun _ H2 e2 => hE H2 (e1.trans e2)) fun hs H2 e2 => ?_
    have hs := hk ((Bool.not_eq_false' _).mp hs)
    exact q_when (b := true) (et_not (a := false) (etV (edCall (aCons (edV rfl (dpUp (e1.trans e2) hl)) aNil) ⟨z, hz, rfl, by rw [hs]⟩))) (fun _ H3 e3 => hE H3 ((e1.trans e2).trans e3)) (fun z => nomatch z)

end
end Dt

namespace Dt
open PySem L2 Evl PyProof.Rows
section
variable {P : Program} {w : World} {K : PySem.W.Frag} {mg : Str → Option Value} {base : Heap}
/-! triangles, small triangles asked otherwise -/
theorem ok__law_triangle_asked (T : Tx K mg) : FnOk P w K mg base (L2.CX P w) 6 T.a__law_triangle_asked T.d__law_triangle_asked ["_law_which", "_law_more"] (SpX SpN (AskT T.C_BadTriangle)) := by
  have G_turn : FnOk P w K mg base (L2.CX P w) 5 T.a_turn T.d_turn ["triangle", "small"] (SpX (PrD K P_turn_of) (ROr (BadT K T.C_BadTriangle 2) (RSmall K T.C_BadSmall))) := ok_turn T
  have G_told : FnOk P w K mg base (L2.CX P w) 4 T.a_told T.d_told ["triangle"] (SpX SpN (BadT K T.C_BadTriangle 1)) := ok_told T
  have G_walk : FnOk P w K mg base (L2.CX P w) 5 T.a_walk T.d_walk ["triangle", "door"] (SpX SpN (ROr (BadT K T.C_BadTriangle 2) (RDoor K T.C_BadDoor))) := ok_walk T
  have G_walk_out : FnOk P w K mg base (L2.CX P w) 5 T.a_walk_out T.d_walk_out ["triangle", "small"] (SpX SpN (ROr (BadT K T.C_BadTriangle 2) (ROr (RSmall K T.C_BadSmall) (RFlat K T.C_BadSmall)))) := ok_walk_out T
  have HF : ∀ f, f ∈ [T.a_fulls, T.a_around, T.a_doors] → HeldX P w K mg base 5 f (SpX SpN (BadT K T.C_BadTriangle 1)) := fun f hf => by
    rcases List.mem_cons.mp hf with rfl | hf
    · exact ⟨_, _, (ok_fulls T).mono (by decide), T.F_fulls.kp, T.b_fulls⟩
    · rcases List.mem_cons.mp hf with rfl | hf
      · exact ⟨_, _, (ok_around T).mono (by decide), T.F_around.kp, T.b_around⟩
      · rw [List.mem_singleton] at hf
        subst hf
        exact ⟨_, _, ((ok_doors T).mono (by decide)).imp fun vs H Q E h => h.elim (fun z => z.elim) .inr, T.F_doors.kp, T.b_doors⟩
  refine T.F__law_triangle_asked.okX sc__law_triangle_asked (spxLen lenN lenAskT) (fun cdv A outer s H vs Q E hr h => ?_)
  refine ⟨_, (pss_cons (ps_set (i := 2) sc__law_triangle_asked.nd rfl (.inl rfl) (pe_lst (pa_cons pe_non (pa_cons pe_str (pa_cons (pe_tup (pa_cons pe_str (pa_cons pe_str pa_nil))) (pa_cons pe_dnewK (pa_cons (pe_lst pa_nil) (pa_cons (pe_lst (pa_cons pe_str pa_nil)) (pa_cons (pe_lst (pa_cons pe_str (pa_cons pe_str pa_nil))) (pa_cons (pe_lst (pa_cons pe_str (pa_cons pe_str (pa_cons pe_str pa_nil)))) (pa_cons (pe_lst (pa_cons pe_str (pa_cons pe_str pa_nil))) (pa_cons (pe_lst (pa_cons pe_str (pa_cons pe_non pa_nil))) pa_nil))))))))))))
    (pss_cons (ps_set (i := 2) sc__law_triangle_asked.nd rfl (.inl rfl) (pe_op op_cat (pv 2) (pe_lst (pa_cons (pe_lst (pa_cons pe_str (pa_cons pe_str pa_nil))) (pa_cons (pe_lst (pa_cons pe_str (pa_cons pe_str (pa_cons pe_str pa_nil)))) (pa_cons (pe_lst (pa_cons pe_str (pa_cons pe_str (pa_cons pe_str pa_nil)))) (pa_cons (pe_lst (pa_cons (pe_lst (pa_cons pe_str (pa_cons pe_str pa_nil))) (pa_cons pe_str pa_nil))) (pa_cons (pe_lst (pa_cons pe_str (pa_cons pe_str (pa_cons pe_str pa_nil)))) pa_nil))))))))
    (pss_cons (ps_expr (pe_bm PySem.F.plainAttrs_list PySem.F.slot_list_append PySem.F.type_list_append mt_append (pv 2) (pa_cons (pe_op op_rep (pe_lst (pa_cons (pe_op op_mulS pe_str (pe_op op_add pe_int (pe_op op_mod (pv 1) pe_int))) pa_nil)) pe_int) pa_nil)))
    (pss_cons (ps_set (i := 3) sc__law_triangle_asked.nd rfl (.inl rfl) (pe_ix (r := rIxL K) ix_list (pv 2) (pe_op op_mod (pv 0) pe_int) (fun _ _ => rfl)))
    (pss_cons (ps_set (i := 4) sc__law_triangle_asked.nd rfl (.inl rfl) (pe_op op_mod (pe_op op_fdiv (pv 0) pe_int) pe_int))
    (pss_cons (ps_if (pt_cmpR op_lt (pv 4) pe_int (nomark _)) (pss_one (ps_ret (pe_callF HF (hr.mono (by decide)) (takes_of rfl rfl rfl rfl) (pe_ix (r := rIxL K) ix_list (pe_lst (pa_cons (pe_glob (v := .ref T.a_fulls) (by rfl) T.g_fulls rfl) (pa_cons (pe_glob (v := .ref T.a_around) (by rfl) T.g_around rfl) (pa_cons (pe_glob (v := .ref T.a_doors) (by rfl) T.g_doors rfl) pa_nil)))) (pv 4) (fun _ _ => rfl)) (pa_cons (pv 3) pa_nil)))) pss_nil)
    (pss_cons (ps_if (pt_cmpR op_lt (pv 4) pe_int (nomark _)) (pss_one (ps_ret (pe_ifExp (pt_cmpR (r := rEqD K) (op_eqD hr.units) (pv 4) pe_int (nomark _)) (pe_callS G_turn (hr.mono (by decide)) (by rfl) T.g_turn T.F_turn.kp T.b_turn (fun σ => passAt (takes_of rfl rfl rfl rfl) σ) (pa_cons (pv 3) (pa_cons pe_non pa_nil))) (pe_callS G_told (hr.mono (by decide)) (by rfl) T.g_told T.F_told.kp T.b_told (fun σ => passAt (takes_of rfl rfl rfl rfl) σ) (pa_cons (pv 3) pa_nil))))) pss_nil)
    (pss_one (ps_ret (pe_ifExp (pt_cmpR (r := rEqD K) (op_eqD hr.units) (pv 4) pe_int (nomark _)) (pe_callS G_walk (hr.mono (by decide)) (by rfl) T.g_walk T.F_walk.kp T.b_walk (fun σ => passAt (takes_of rfl rfl rfl rfl) σ) (pa_cons (pv 3) (pa_cons pe_non pa_nil))) (pe_callS G_walk_out (hr.mono (by decide)) (by rfl) T.g_walk_out T.F_walk_out.kp T.b_walk_out (fun σ => passAt (takes_of rfl rfl rfl rfl) σ) (pa_cons (pv 3) (pa_cons pe_non pa_nil))))))))))))), ?_⟩
  rcases h with h | ⟨C, ⟨rfl, i, j, hi, hj, hj2, rfl⟩, hE⟩
  · exact h.elim
  have n1 : ∀ {H : Hp} {σ : L2.St} {i : Nat} {x : Int}, σ[i]? = some (some (.int x)) → EvD K (tVar i) σ H (.int x) := fun h => edV h (.int _)
  have S : ∀ {H : Hp} {σ : L2.St} (x : Str), EvD K (tC (.str x)) σ H (.str x) := fun x => edS ev_c
  refine qAsgLV (n := 10) (R := TriV K false) (elvLst (avAll triUp (evBad (edNn ev_c) rfl) (avAll triUp (evBad (S "ab") (by decide +kernel)) (avAll triUp (evBad (edTup (aCons (S "ab") (aCons (S "c") aNil)) (by decide)) rfl) (avAll triUp evDct (avAll triUp (evBad (edN (enLst aNil (by decide))) (by decide +kernel)) (avAll triUp (evBad (edN (enLst (aCons (S "a") aNil) (by decide))) (by decide +kernel))
    (avAll triUp (evBad (edN (enLst (aCons (S "ab") (aCons (S "cc") aNil)) (by decide))) (by decide +kernel)) (avAll triUp (evBad (edN (enLst (aCons (S "abc") (aCons (S "ab") (aCons (S "") aNil))) (by decide))) (by decide +kernel)) (avAll triUp (evBad (edN (enLst (aCons (S "ab") (aCons (S "") aNil)) (by decide))) (by decide +kernel)) (avAll triUp (evBad (edN (enLst (aCons (S "ab") (aCons (edNn ev_c) aNil)) (by decide))) (by decide +kernel)) avAll0)))))))))) (by decide)) fun p0 xs0 H0 hp0 e0 hx0 => ?_
  have hx0 := allUp triUp (Ex.new (o := .lst xs0) hp0) hx0
  have e0 := e0.trans (Ex.new (o := .lst xs0) hp0)
  refine qAsgLV (n := 15) (R := TriV K false) (elvCat (n := 10) (m := 5) triUp rfl upd_same hx0 (elvLst (avAll triUp (evBad (edN (enLst (aCons (S "aB") (aCons (S "c") aNil)) (by decide))) (by decide +kernel)) (avAll triUp (evBad (edN (enLst (aCons (S "a b") (aCons (S "ab") (aCons (S "c") aNil))) (by decide))) (by decide +kernel)) (avAll triUp (evBad (edN (enLst (aCons (S "abd") (aCons (S "ab") (aCons (S "c") aNil))) (by decide))) (by decide +kernel))
    (avAll triUp (evBad (edN (enLst (aCons (edN (enLst (aCons (S "a") (aCons (S "b") aNil)) (by decide))) (aCons (S "c") aNil)) (by decide))) (by decide +kernel)) (avAll triUp (evBad (edN (enLst (aCons (S "ab") (aCons (S "c") (aCons (S "") aNil))) (by decide))) (by decide +kernel)) avAll0))))) (by decide)) (by decide)) fun p1 xs1 H1 hp1 e1 hx1 => ?_
  have e01 : Ex H (upd H1 p1 (.lst xs1)) := e0.trans (e1.trans (Ex.new hp1))
  have m0 : 0 ≤ j % 9 := Int.emod_nonneg _ (by decide)
  have m1 : j % 9 < 9 := Int.emod_lt_of_pos _ (by decide)
  obtain ⟨hb, hlen⟩ := badRep (k := 2 + j % 9) (by omega) (by omega)
  refine ⟨.ref p1, rfl, .inl ⟨rfl, xs1, sq_of upd_same⟩, enTwice (enLst (aCons (edRepS (S "a") (edI2 (cI 2) (edI2c (n1 rfl) (cI 9) (by decide) rfl) rfl) (by omega) (by omega) (by decide) (by decide) hlen) aNil) (Nat.le_of_ble_eq_true rfl)) (Nat.le_of_ble_eq_true rfl) _ (Ex.refl _) _ fun p2 ys H2 hp2 e2 h2 hd2 => ?_⟩
  have h1 : H2 p1 = some (.lst xs1) := e2 _ _ upd_same
  have ne : p2 ≠ p1 := fun z => by
    subst z
    rw [upd_same] at hp2
    cases hp2
  refine ⟨p1, xs1, .ref p2, rfl, rfl, h1, sz_lt (by rw [hx1.1]; decide), ?_⟩
  have ex3 : Ex H1 (upd H2 p1 (.lst (xs1 ++ [.ref p2]))) := ((Ex.new hp1).trans e2).mut hp1
  have all : AllV (TriV K false) 16 (xs1 ++ [.ref p2]) (upd H2 p1 (.lst (xs1 ++ [.ref p2]))) := allApp (n := 15) (m := 1) (allUp triUp ex3 hx1) ⟨rfl, fun v hv => by
    rw [List.mem_singleton] at hv
    subst hv
    refine .inl ⟨_, dpOfL (xs := ys) ((upd_ne ne).trans h2) (dpsTups (tupsMut h1) hd2 rfl), (badOf hb).1, (badOf hb).2⟩⟩
  have e3 : Ex H (upd H2 p1 (.lst (xs1 ++ [.ref p2]))) := (e0.trans e1).trans ex3
  have w0 : 0 ≤ i % 16 := Int.emod_nonneg _ (by decide)
  have w1 : i % 16 < 16 := Int.emod_lt_of_pos _ (by decide)
  refine qAsgV (evIxV (n := 16) triUp rfl upd_same all (edI2c (n1 rfl) (cI 16) (by decide) rfl) w0 w1) fun v H4 e4 hv => ?_
  have d0 : 0 ≤ i / 16 % 7 := Int.emod_nonneg _ (by decide)
  refine qAsg (d := .int (i / 16 % 7)) (edI2c (edI2c (n1 rfl) (cI 16) ⟨by decide, by decide⟩ rfl) (cI 7) (by decide) rfl) fun z H5 e5 hz => ?_
  have hz := dpInt hz
  subst hz
  have e6 : Ex H H5 := (e3.trans e4).trans e5
  have hv5 := triUp _ _ _ e5 hv
  generalize i / 16 % 7 = D at d0 ⊢
  refine q_when (etC (edLt (n1 rfl) (cI 3))) (fun hb H6 e7 => ?_) (fun hb H6 e7 => ?_)
  · have hb : D < 3 := of_decide_eq_true hb
    exact sRetR (nvCallF (evPick (fs := [T.a_fulls, T.a_around, T.a_doors]) (fun _ _ _ q => q) (by show 3 ≤ 1000; decide) (n1 rfl) d0 (by show D < 3; exact hb)) (avCons triUp (evVar triUp rfl (triUp _ _ _ e7 hv5)) avNil) (fun vs H7 ⟨v, ws, e, hv, e2⟩ => by
      subst e e2
      exact ⟨rfl, rfl, v, [], rfl, hv⟩) fun H7 e8 => hE H7 ((e6.trans e7).trans e8))
  have hv6 := triUp _ _ _ e7 hv5
  refine q_when (etC (edLt (n1 rfl) (cI 5))) (fun hb2 H7 e8 => ?_) (fun hb2 H7 e8 => ?_)
  · have hv7 := triUp _ _ _ e8 hv6
    exact sRetR (nvIf (etC (edEqI (n1 rfl) (cI 3))) (fun _ => nvBad2 (evVar triUp rfl hv7) (edNn ev_c) fun H8 e9 => hE H8 (((e6.trans e7).trans e8).trans e9)) fun _ => nvChkT (evVar triUp rfl hv7) fun H8 e9 => hE H8 (((e6.trans e7).trans e8).trans e9))
  · have hv7 := triUp _ _ _ e8 hv6
    exact sRetR (nvIf (etC (edEqI (n1 rfl) (cI 5))) (fun _ => nvBad2 (evVar triUp rfl hv7) (edNn ev_c) fun H8 e9 => hE H8 (((e6.trans e7).trans e8).trans e9)) fun _ => nvBad2 (evVar triUp rfl hv7) (edNn ev_c) fun H8 e9 => hE H8 (((e6.trans e7).trans e8).trans e9))
theorem ok__law_small_asked (T : Tx K mg) : FnOk P w K mg base (L2.CX P w) 6 T.a__law_small_asked T.d__law_small_asked ["_law_which", "_law_more"] (SpX SpN (AskT T.C_BadSmall)) := by

  have HF : ∀ f, f ∈ [T.a_turn, T.a_walk_out] → HeldX P w K mg base 5 f (SpX SpN (RSmall K T.C_BadSmall)) := fun f hf => by
    rcases List.mem_cons.mp hf with rfl | hf
    · exact ⟨_, _, ((ok_turn T).mono (by decide)).imp fun vs H Q E h => .inr (h.elim (fun z => z.elim) fun ⟨C, r, e⟩ => ⟨C, .inr r, e⟩), T.F_turn.kp, T.b_turn⟩
    · rw [List.mem_singleton] at hf
      subst hf
      exact ⟨_, _, ((ok_walk_out T).mono (by decide)).imp fun vs H Q E h => .inr (h.elim (fun z => z.elim) fun ⟨C, r, e⟩ => ⟨C, .inr (.inl r), e⟩), T.F_walk_out.kp, T.b_walk_out⟩
  refine T.F__law_small_asked.okX sc__law_small_asked (spxLen lenN lenAskT) (fun cdv A outer s H vs Q E hr h => ?_)
  refine ⟨_, (pss_cons (ps_set (i := 2) sc__law_small_asked.nd rfl (.inl rfl) (pe_lst (pa_cons pe_str (pa_cons pe_str (pa_cons pe_str (pa_cons pe_str pa_nil))))))
    (pss_cons (ps_set (i := 3) sc__law_small_asked.nd rfl (.inl rfl) (pe_lst (pa_cons pe_non (pa_cons pe_int (pa_cons (pe_tup (pa_cons pe_int (pa_cons pe_int pa_nil))) (pa_cons (pe_tup (pa_cons pe_int (pa_cons pe_int (pa_cons pe_int (pa_cons pe_int pa_nil))))) (pa_cons (pe_lst (pa_cons pe_int (pa_cons pe_int (pa_cons pe_int pa_nil)))) (pa_cons (pe_tup (pa_cons pe_int (pa_cons pe_int (pa_cons pe_int pa_nil)))) (pa_cons (pe_tup (pa_cons pe_int (pa_cons pe_int (pa_cons pe_int pa_nil)))) (pa_cons (pe_tup (pa_cons pe_int (pa_cons pe_int (pa_cons pe_int pa_nil)))) (pa_cons (pe_tup (pa_cons pe_int (pa_cons pe_int (pa_cons pe_int pa_nil)))) (pa_cons (pe_tup (pa_cons (pe_op op_sub (pe_un un_neg pe_int) (pv 1)) (pa_cons pe_int (pa_cons pe_int pa_nil)))) pa_nil))))))))))))
    (pss_cons (ps_set (i := 3) sc__law_small_asked.nd rfl (.inl rfl) (pe_op op_cat (pv 3) (pe_lst (pa_cons (pe_tup (pa_cons pe_int (pa_cons (pe_op op_add pe_int (pv 1)) (pa_cons pe_int pa_nil)))) (pa_cons (pe_tup (pa_cons pe_bl (pa_cons pe_int (pa_cons pe_int pa_nil)))) (pa_cons (pe_tup (pa_cons pe_int (pa_cons pe_int (pa_cons (pe_op op_add pe_int (pv 1)) pa_nil)))) pa_nil))))))
    (pss_one (ps_ret (pe_callF HF (hr.mono (by decide)) (takes_of rfl rfl rfl rfl) (pe_ix (r := rIxL K) ix_list (pe_lst (pa_cons (pe_glob (v := .ref T.a_turn) (by rfl) T.g_turn rfl) (pa_cons (pe_glob (v := .ref T.a_walk_out) (by rfl) T.g_walk_out rfl) pa_nil))) (pe_op op_mod (pe_op op_fdiv (pv 0) pe_int) pe_int) (fun _ _ => rfl)) (pa_cons (pv 2) (pa_cons (pe_ix (r := rIxL K) ix_list (pv 3) (pe_op op_mod (pv 0) pe_int) (fun _ _ => rfl)) pa_nil)))))))), ?_⟩
  rcases h with h | ⟨C, ⟨rfl, i, j, hi, hj, hj2, rfl⟩, hE⟩
  · exact h.elim
  have n1 : ∀ {H : Hp} {σ : L2.St} {i : Nat} {x : Int}, σ[i]? = some (some (.int x)) → EvD K (tVar i) σ H (.int x) := fun h => edV h (.int _)
  have S : ∀ {H : Hp} {σ : L2.St} (x : Str), EvD K (tC (.str x)) σ H (.str x) := fun x => edS ev_c
  have I : ∀ {H : Hp} {σ : L2.St} (x : Int), EvD K (tC (.int x)) σ H (.int x) := fun x => edI ev_c
  refine qAsg (d := .list (triD 4 (gOf t4))) (edIs (edN (enLst (aCons (S "abca") (aCons (S "bca") (aCons (S "cb") (aCons (S "a") aNil)))) (by decide))) (congrArg PyData.list t4Is)) fun vt H0 e0 ht => ?_
  have tri : Tri 4 (gOf t4) := triOf (by decide) (by decide) (by decide)
  have three : ∀ {H : Hp} {σ : L2.St} (a b c : Int), smB 4 a b c = false → EvV (tTup (tCons (tC (.int a)) (tCons (tC (.int b)) (tCons (tC (.int c)) tNil)))) σ H (BadS K 4) := fun a b c h => evBadS (edTup (aCons (I a) (aCons (I b) (aCons (I c) aNil))) (Nat.le_of_ble_eq_true rfl)) (okTup (Nat.le_of_ble_eq_true rfl)) h
  refine qAsgLV (n := 10) (R := BadS K 4) (elvLst (avAll badSUp (evBadS (edNn ev_c) okNo rfl) (avAll badSUp (evBadS (I 5) okNo rfl) (avAll badSUp (evBadS (edTup (aCons (I 0) (aCons (I 0) aNil)) (Nat.le_of_ble_eq_true rfl)) (okTup (Nat.le_of_ble_eq_true rfl)) rfl) (avAll badSUp (evBadS (edTup (aCons (I 0) (aCons (I 0) (aCons (I 1) (aCons (I 1) aNil)))) (Nat.le_of_ble_eq_true rfl)) (okTup (Nat.le_of_ble_eq_true rfl)) rfl)
    (avAll badSUp (evBadS (edN (enLst (aCons (I 0) (aCons (I 0) (aCons (I 1) aNil))) (Nat.le_of_ble_eq_true rfl))) okNo rfl) (avAll badSUp (three 3 0 1 (by decide)) (avAll badSUp (three 0 3 1 (by decide)) (avAll badSUp (three 0 2 0 (by decide)) (avAll badSUp (three 2 0 0 (by decide))
    (avAll badSUp (evBadS (edTup (aCons (edI2 (edI (ev_un ev_c ru_neg)) (n1 rfl) (k := -1 - j) rfl) (aCons (I 0) (aCons (I 1) aNil))) (Nat.le_of_ble_eq_true rfl)) (okTup (Nat.le_of_ble_eq_true rfl)) (decide_eq_false (by omega))) avAll0)))))))))) (by decide)) fun p0 xs0 H1 hp0 e1 hx0 => ?_
  have hx0 := allUp badSUp (Ex.new (o := .lst xs0) hp0) hx0
  have e1 := e1.trans (Ex.new (o := .lst xs0) hp0)
  refine qAsgLV (n := 13) (R := BadS K 4) (elvCat (n := 10) (m := 3) badSUp rfl upd_same hx0 (elvLst (avAll badSUp (evBadS (edTup (aCons (I 0) (aCons (edI2 (I 4) (n1 rfl) (k := 4 + j) rfl) (aCons (I 0) aNil))) (Nat.le_of_ble_eq_true rfl)) (okTup (Nat.le_of_ble_eq_true rfl)) (decide_eq_false (by omega)))
    (avAll badSUp (evBadS (edTup (aCons (edB (b := true) ev_c) (aCons (I 0) (aCons (I 1) aNil))) (Nat.le_of_ble_eq_true rfl)) (okTup (Nat.le_of_ble_eq_true rfl)) rfl) (avAll badSUp (evBadS (edTup (aCons (I 0) (aCons (I 0) (aCons (edI2 (I 2) (n1 rfl) (k := 2 + j) rfl) aNil))) (Nat.le_of_ble_eq_true rfl)) (okTup (Nat.le_of_ble_eq_true rfl)) (decide_eq_false (by omega))) avAll0))) (by decide)) (by decide)) fun p1 xs1 H2 hp1 e2 hx1 => ?_
  have hx1 := allUp badSUp (Ex.new (o := .lst xs1) hp1) hx1
  have e2 := e2.trans (Ex.new (o := .lst xs1) hp1)
  have w0 : 0 ≤ i % 13 := Int.emod_nonneg _ (by decide)
  have w1 : i % 13 < 13 := Int.emod_lt_of_pos _ (by decide)
  have d0 : 0 ≤ i / 13 % 2 := Int.emod_nonneg _ (by decide)
  have d1 : i / 13 % 2 < 2 := Int.emod_lt_of_pos _ (by decide)
  exact sRetR (nvCallF (evPick (fs := [T.a_turn, T.a_walk_out]) (fun _ _ _ q => q) (by show 2 ≤ 1000; decide) (edI2c (edI2c (n1 rfl) (cI 13) ⟨by decide, by decide⟩ rfl) (cI 2) (by decide) rfl) d0 d1) (avCons upD (edV rfl (dpUp (e1.trans e2) ht)) (avCons badSUp (evIxV (n := 13) badSUp rfl upd_same hx1 (edI2c (n1 rfl) (cI 13) (by decide) rfl) w0 w1) avNil)) (fun vs H7 ⟨v, ws, ea, hv, w, us, eb, ⟨x, hx, k1, k2⟩, ec⟩ => by
    subst ea eb ec
    exact ⟨rfl, 4, gOf t4, x, tri, k1, .cons hv (.cons hx .nil), k2⟩) fun H7 e8 => hE H7 (((e0.trans e1).trans e2).trans e8))

end
end Dt

namespace Dt
open PySem L2 Evl PyProof.Rows
section
variable {P : Program} {w : World} {K : PySem.W.Frag} {mg : Str → Option Value} {base : Heap}
/-! doors, spots, letters asked otherwise -/
theorem ok__law_others_asked (T : Tx K mg) : FnOk P w K mg base (L2.CX P w) 6 T.a__law_others_asked T.d__law_others_asked ["_law_kind", "_law_which", "_law_more"] (SpX SpN (AskO T.C_BadTriangle T.C_BadSmall T.C_BadDoor T.C_BadSpot)) := by
  have G_put : FnOk P w K mg base (L2.CX P w) 4 T.a_put T.d_put ["triangle", "row", "place", "letter"] (SpX (PrN K P_put) (ROr (BadT K T.C_BadTriangle 4) (RSpot K T.C_BadSpot))) := ok_put T
  have G_walk : FnOk P w K mg base (L2.CX P w) 5 T.a_walk T.d_walk ["triangle", "door"] (SpX SpN (ROr (BadT K T.C_BadTriangle 2) (RDoor K T.C_BadDoor))) := ok_walk T
  have G_walk_out : FnOk P w K mg base (L2.CX P w) 5 T.a_walk_out T.d_walk_out ["triangle", "small"] (SpX SpN (ROr (BadT K T.C_BadTriangle 2) (ROr (RSmall K T.C_BadSmall) (RFlat K T.C_BadSmall)))) := ok_walk_out T
  refine T.F__law_others_asked.okX sc__law_others_asked (spxLen lenN lenAskO) (fun cdv A outer s H vs Q E hr h => ?_)
  refine ⟨_, (pss_cons (ps_if (pt_cmpR (r := rEqD K) (op_eqD hr.units) (pv 0) pe_int (nomark _)) (pss_cons (ps_if (pt_cmpR op_lt (pe_op op_mod (pv 1) pe_int) pe_int (nomark _)) (pss_one (ps_ret (pe_callS G_walk_out (hr.mono (by decide)) (by rfl) T.g_walk_out T.F_walk_out.kp T.b_walk_out (fun σ => passAt (takes_of rfl rfl rfl rfl) σ) (pa_cons (pe_lst (pa_cons pe_str (pa_cons pe_str (pa_cons pe_str pa_nil)))) (pa_cons (pe_tup (pa_cons pe_int (pa_cons pe_int (pa_cons (pe_op op_sub pe_int (pe_op op_mod (pv 1) pe_int)) pa_nil)))) pa_nil))))) pss_nil)
    (pss_one (ps_ret (pe_callS G_walk_out (hr.mono (by decide)) (by rfl) T.g_walk_out T.F_walk_out.kp T.b_walk_out (fun σ => passAt (takes_of rfl rfl rfl rfl) σ) (pa_cons (pe_lst (pa_cons pe_str (pa_cons pe_str pa_nil))) (pa_cons (pe_tup (pa_cons pe_int (pa_cons pe_int (pa_cons pe_int pa_nil)))) pa_nil)))))) pss_nil)
    (pss_cons (ps_if (pt_cmpR (r := rEqD K) (op_eqD hr.units) (pv 0) pe_int (nomark _)) (pss_one (ps_ret (pe_callS G_walk (hr.mono (by decide)) (by rfl) T.g_walk T.F_walk.kp T.b_walk (fun σ => passAt (takes_of rfl rfl rfl rfl) σ) (pa_cons (pe_lst (pa_cons pe_str (pa_cons pe_str (pa_cons pe_str pa_nil)))) (pa_cons (pe_ix (r := rIxL K) ix_list (pe_lst (pa_cons pe_non (pa_cons pe_str (pa_cons pe_bl (pa_cons (pe_tup (pa_cons pe_int pa_nil)) (pa_cons (pe_op op_sub (pe_un un_neg pe_int) (pv 2)) (pa_cons (pe_op op_add pe_int (pv 2)) (pa_cons pe_int (pa_cons pe_int pa_nil))))))))) (pe_op op_mod (pv 1) pe_int) (fun _ _ => rfl)) pa_nil))))) pss_nil)
    (pss_cons (ps_if (pt_cmpR (r := rEqD K) (op_eqD hr.units) (pv 0) pe_int (nomark _)) (pss_cons (ps_set (i := 3) sc__law_others_asked.nd rfl (.inl rfl) (pe_lst (pa_cons (pe_tup (pa_cons pe_non (pa_cons pe_int pa_nil))) (pa_cons (pe_tup (pa_cons pe_int (pa_cons pe_non pa_nil))) (pa_cons (pe_tup (pa_cons pe_int (pa_cons pe_int pa_nil))) (pa_cons (pe_tup (pa_cons pe_int (pa_cons pe_int pa_nil))) (pa_cons (pe_tup (pa_cons pe_int (pa_cons pe_int pa_nil))) (pa_cons (pe_tup (pa_cons (pe_op op_sub (pe_un un_neg pe_int) (pv 2)) (pa_cons pe_int pa_nil))) (pa_cons (pe_tup (pa_cons pe_int (pa_cons (pe_op op_sub (pe_un un_neg pe_int) (pv 2)) pa_nil))) (pa_cons (pe_tup (pa_cons pe_bl (pa_cons pe_int pa_nil))) pa_nil))))))))))
    (pss_cons (ps_asg (pe_ix (r := rIxL K) ix_list (pv 3) (pe_op op_mod (pv 1) pe_int) (fun _ _ => rfl)) (pg_tup rfl (pgs_cons (pg_name (i := 4) sc__law_others_asked.nd rfl (.inl rfl)) (pgs_cons (pg_name (i := 5) sc__law_others_asked.nd rfl (.inl rfl)) pgs_nil))))
    (pss_one (ps_ret (pe_callS G_put (hr.mono (by decide)) (by rfl) T.g_put T.F_put.kp T.b_put (fun σ => passAt (takes_of rfl rfl rfl rfl) σ) (pa_cons (pe_lst (pa_cons pe_str (pa_cons pe_str (pa_cons pe_str pa_nil)))) (pa_cons (pv 4) (pa_cons (pv 5) (pa_cons (pe_ifExp (pt_cmpR (r := rEqD K) (op_eqD hr.units) (pe_op op_mod (pe_op op_fdiv (pv 1) pe_int) pe_int) pe_int (nomark _)) pe_str pe_non) pa_nil))))))))) pss_nil)
    (pss_cons (ps_set (i := 3) sc__law_others_asked.nd rfl (.inl rfl) (pe_ix (r := rIxL K) ix_list (pe_lst (pa_cons pe_non (pa_cons pe_str (pa_cons pe_str (pa_cons pe_str (pa_cons pe_str (pa_cons pe_int (pa_cons (pe_lst (pa_cons pe_str pa_nil)) pa_nil)))))))) (pe_op op_mod (pv 1) pe_int) (fun _ _ => rfl)))
    (pss_one (ps_ret (pe_ifExp (pt_cmpR (r := rEqD K) (op_eqD hr.units) (pe_op op_mod (pe_op op_fdiv (pv 1) pe_int) pe_int) pe_int (nomark _)) (pe_callS G_put (hr.mono (by decide)) (by rfl) T.g_put T.F_put.kp T.b_put (fun σ => passAt (takes_of rfl rfl rfl rfl) σ) (pa_cons (pe_lst (pa_cons pe_str (pa_cons pe_str (pa_cons pe_str pa_nil)))) (pa_cons pe_int (pa_cons pe_int (pa_cons (pv 3) pa_nil))))) (pe_callS G_put (hr.mono (by decide)) (by rfl) T.g_put T.F_put.kp T.b_put (fun σ => passAt (takes_of rfl rfl rfl rfl) σ) (pa_cons (pe_lst (pa_cons (pe_lst (pa_cons pe_str pa_nil)) (pa_cons pe_str pa_nil))) (pa_cons pe_int (pa_cons pe_int (pa_cons (pv 3) pa_nil)))))))))))), ?_⟩
  rcases h with h | ⟨C, ⟨k, i, j, hk2, hk6, hi, hj, hj2, rfl, hC⟩, hE⟩
  · exact h.elim
  have n1 : ∀ {H : Hp} {σ : L2.St} {i : Nat} {x : Int}, σ[i]? = some (some (.int x)) → EvD K (tVar i) σ H (.int x) := fun h => edV h (.int _)
  have S : ∀ {H : Hp} {σ : L2.St} (x : Str), EvD K (tC (.str x)) σ H (.str x) := fun x => edS ev_c
  have I : ∀ {H : Hp} {σ : L2.St} (x : Int), EvD K (tC (.int x)) σ H (.int x) := fun x => edI ev_c
  have tri : Tri 3 (gOf t3) := triOf (by decide) (by decide) (by decide)
  have three : ∀ {H : Hp} {σ : L2.St}, EvD K (tLst (tCons (tC (.str "aab")) (tCons (tC (.str "ab")) (tCons (tC (.str "c")) tNil)))) σ H (.list (triD 3 (gOf t3))) := fun {H σ} => edIs (edN (enLst (aCons (S "aab") (aCons (S "ab") (aCons (S "c") aNil))) (by decide))) (congrArg PyData.list t3Is)
  have less : ∀ {H : Hp} {σ : L2.St} {m : Nat} {x : Int}, σ[m]? = some (some (.int x)) → EvD K (tOp (rI0 fun i j => .int (i - j)) (tUn (rU fun i => .int (-i)) (tC (.int 1))) (tVar m)) σ H (.int (-1 - x)) := fun h => edI2 (edI (ev_un ev_c ru_neg)) (n1 h) rfl
  -- no full one
  refine q_when (b := decide (k = 2)) (etC (edEqI (n1 rfl) (cI 2))) (fun hb H1 e1 => ?_) (fun hb H1 e1 => ?_)
  · have hb : k = 2 := of_decide_eq_true hb
    rw [if_pos hb] at hC
    subst hC
    refine q_when (etC (edLt (edI2c (n1 rfl) (cI 4) (by decide) rfl) (cI 2))) (fun _ H2 e2 => ?_) (fun _ H2 e2 => ?_)
    · have w0 : 0 ≤ i % 2 := Int.emod_nonneg _ (by decide)
      have w1 : i % 2 < 2 := Int.emod_lt_of_pos _ (by decide)
      obtain ⟨u, hu⟩ : ∃ u : Nat, 1 - i % 2 = (u : Nat) := ⟨(1 - i % 2).toNat, by omega⟩
      have hu2 : u = 0 ∨ u = 1 := by omega
      refine sRetR (nvD (ds := [.list (triD 3 (gOf t3)), smD (0, 0, u)]) (aCons three (aCons (edTup (aCons (I 0) (aCons (I 0) (aCons (edI2 (cI 1) (edI2c (n1 rfl) (cI 2) (by decide) rfl) (g := fun i j => .int (i - j)) (by rw [← hu])) aNil))) (Nat.le_of_ble_eq_true rfl)) aNil)) (fun vs H3 hd => .inr (.inr ⟨rfl, 3, gOf t3, (0, 0, u), tri, ?_, hd, ?_⟩)) fun H3 e3 => hE H3 ((e1.trans e2).trans e3))
      · rcases hu2 with rfl | rfl
        · exact .inr ⟨rfl, by decide⟩
        · exact .inl ⟨rfl, by decide⟩
      · rcases hu2 with rfl | rfl <;> decide +kernel
    · refine sRetR (nvD (ds := [.list (triD 2 (gOf t2)), smD (0, 0, 1)]) (aCons (edIs (edN (enLst (aCons (S "aa") (aCons (S "a") aNil)) (by decide))) (congrArg PyData.list t2Is)) (aCons (edTup (aCons (I 0) (aCons (I 0) (aCons (I 1) aNil))) (Nat.le_of_ble_eq_true rfl)) aNil)) (fun vs H3 hd => .inr (.inr ⟨rfl, 2, gOf t2, (0, 0, 1), triOf (by decide) (by decide) (by decide), .inl ⟨rfl, by decide⟩, hd, by decide +kernel⟩)) fun H3 e3 => hE H3 ((e1.trans e2).trans e3))
  have hb : ¬ k = 2 := of_decide_eq_false hb
  rw [if_neg hb] at hC
  -- no door
  refine q_when (b := decide (k = 3)) (etC (edEqI (n1 rfl) (cI 3))) (fun hb H2 e2 => ?_) (fun hb H2 e2 => ?_)
  · have hb : k = 3 := of_decide_eq_true hb
    rw [if_pos hb] at hC
    subst hC
    have w0 : 0 ≤ i % 8 := Int.emod_nonneg _ (by decide)
    have w1 : i % 8 < 8 := Int.emod_lt_of_pos _ (by decide)
    refine sRetR (nvCall (C := T.C_BadDoor) (avCons upD three.v (avCons badDUp (evIxL (n := 8) badDUp (elvLst (avAll badDUp (evBadD (edNn ev_c) fun _ e => nomatch e) (avAll badDUp (evBadD (S "1") fun _ e => nomatch e) (avAll badDUp (evBadD (edB (b := true) ev_c) fun _ e => nomatch e) (avAll badDUp (evBadD (edTup (aCons (I 1) aNil) (Nat.le_of_ble_eq_true rfl)) fun _ e => nomatch e)
      (avAll badDUp (evBadI (less rfl) (by omega)) (avAll badDUp (evBadI (edI2 (I 6) (n1 rfl) (k := 6 + j) rfl) (by omega)) (avAll badDUp (evBadI (I 0) (by decide)) (avAll badDUp (evBadI (I 5) (by decide)) avAll0)))))))) (by decide)) (edI2c (n1 rfl) (cI 8) (by decide) rfl) w0 w1) avNil)) (fun vs H3 _ ⟨v, ws, ea, hv, w, us, eb, ⟨x, hx, k1⟩, ec⟩ => ?_) fun H3 e3 => hE H3 ((e1.trans e2).trans e3))
    subst ea eb ec
    refine .inr ⟨rfl, 3, gOf t3, x, tri, .cons hv (.cons hx .nil), fun m hm jj hjj => ?_⟩
    rw [doors3, List.mem_singleton] at hjj
    subst hjj
    exact fun z => k1 m hm z.symm
  have hb : ¬ k = 3 := of_decide_eq_false hb
  rw [if_neg hb] at hC
  -- no spot
  refine q_when (b := decide (k = 4)) (etC (edEqI (n1 rfl) (cI 4))) (fun hb H3 e3 => ?_) (fun hb H3 e3 => ?_)
  · have hb : k = 4 := of_decide_eq_true hb
    rw [if_pos hb] at hC
    subst hC
    have w0 : 0 ≤ i % 8 := Int.emod_nonneg _ (by decide)
    have w1 : i % 8 < 8 := Int.emod_lt_of_pos _ (by decide)
    refine qAsgLV (n := 8) (R := BadP K 3) (elvLst (avAll badPUp (evBadP (aCons (edNn ev_c) (aCons (I 0) aNil)) rfl) (avAll badPUp (evBadP (aCons (I 0) (aCons (edNn ev_c) aNil)) rfl) (avAll badPUp (evBadP (aCons (I 0) (aCons (I 3) aNil)) (by decide)) (avAll badPUp (evBadP (aCons (I 3) (aCons (I 0) aNil)) (by decide)) (avAll badPUp (evBadP (aCons (I 2) (aCons (I 1) aNil)) (by decide))
      (avAll badPUp (evBadP (aCons (less rfl) (aCons (I 0) aNil)) (decide_eq_false (by omega))) (avAll badPUp (evBadP (aCons (I 0) (aCons (less rfl) aNil)) (decide_eq_false (by omega))) (avAll badPUp (evBadP (aCons (edB (b := true) ev_c) (aCons (I 0) aNil)) rfl) avAll0)))))))) (by decide)) fun p0 xs0 H4 hp0 e4 hx0 => ?_
    have hx0 := allUp badPUp (Ex.new (o := .lst xs0) hp0) hx0
    have e4 := e4.trans (Ex.new (o := .lst xs0) hp0)
    refine qTup2P (i := 4) (j := 5) (evIxV (n := 8) badPUp rfl upd_same hx0 (edI2c (n1 rfl) (cI 8) (by decide) rfl) w0 w1) fun v w x y H5 e5 hv hw hs => ?_
    refine sRetR (nvD (ds := [.list (triD 3 (gOf t3)), x, y, if i / 8 % 2 = 0 then .str "a" else .none]) (aCons three (aCons (edV rfl hv) (aCons (edV rfl hw) (aCons (edIf (b := decide (i / 8 % 2 = 0)) (etC (edEqI (edI2c (edI2c (n1 rfl) (cI 8) ⟨by decide, by decide⟩ rfl) (cI 2) (by decide) rfl) (cI 0))) (fun h => ?_) fun h => ?_) aNil)))) (fun vs H6 hd => .inr ⟨rfl, 3, gOf t3, x, y, _, tri, ?_, hd, fun z => ?_⟩) fun H6 e6 => hE H6 ((((e1.trans e2).trans e3).trans (e4.trans e5)).trans e6))
    · rw [if_pos (of_decide_eq_true h)]
      exact S "a"
    · rw [if_neg (of_decide_eq_false h)]
      exact edNn ev_c
    · split
      · exact Nat.le_of_ble_eq_true (by decide +kernel)
      · trivial
    · rw [hs] at z
      cases z
  have hb : ¬ k = 4 := of_decide_eq_false hb
  rw [if_neg hb] at hC
  -- no letter
  have w0 : 0 ≤ i % 7 := Int.emod_nonneg _ (by decide)
  have w1 : i % 7 < 7 := Int.emod_lt_of_pos _ (by decide)
  refine qAsgV (R := BadL K) (evIxL (n := 7) badLUp (elvLst (avAll badLUp (evBadL (edNn ev_c) rfl rfl) (avAll badLUp (evBadL (S "") (by decide +kernel) (by decide +kernel)) (avAll badLUp (evBadL (S "ab") (by decide +kernel) (by decide +kernel)) (avAll badLUp (evBadL (S "d") (by decide +kernel) (by decide +kernel)) (avAll badLUp (evBadL (S "A") (by decide +kernel) (by decide +kernel)) (avAll badLUp (evBadL (I 1) rfl rfl) (avAll badLUp (evBadL (edN (enLst (aCons (S "a") aNil) (by decide))) rfl rfl) avAll0))))))) (by decide)) (edI2c (n1 rfl) (cI 7) (by decide) rfl) w0 w1) fun v H4 e4 hv => ?_
  refine sRetR (nvIf (b := decide (i / 7 % 2 = 0)) (etC (edEqI (edI2c (edI2c (n1 rfl) (cI 7) ⟨by decide, by decide⟩ rfl) (cI 2) (by decide) rfl) (cI 0))) (fun h => ?_) fun h => ?_)
  · rw [if_pos (of_decide_eq_true h)] at hC
    subst hC
    obtain ⟨x, hx, k1, k2⟩ := hv
    exact nvD (ds := [.list (triD 3 (gOf t3)), .int 0, .int 0, x]) (aCons three (aCons (I 0) (aCons (I 0) (aCons (edV rfl hx) aNil)))) (fun vs H6 hd => .inr ⟨rfl, 3, gOf t3, _, _, _, tri, k1, hd, fun _ => k2⟩) fun H6 e6 => hE H6 ((((e1.trans e2).trans e3).trans e4).trans e6)
  · rw [if_neg (of_decide_eq_false h)] at hC
    subst hC
    refine nvCall (C := T.C_BadTriangle) (avCons triUp (evBad (edN (enLst (aCons (edN (enLst (aCons (S "ab") aNil) (by decide))) (aCons (S "c") aNil)) (by decide))) (by decide +kernel)) (avCons upD (I 9) (avCons upD (I 9) (avCons badLUp (evVar badLUp rfl hv) avNil)))) (fun vs H3 _ ⟨v, ws, ea, hv, w, us, eb, _, w2, us2, ec, _, w3, us3, ed, _, ee⟩ => ?_) fun H6 e6 => hE H6 ((((e1.trans e2).trans e3).trans e4).trans e6)
    subst ea eb ec ed ee
    exact .inl ⟨rfl, rfl, v, _, rfl, hv⟩

end
end Dt

namespace Dt
open PySem L2 Evl PyProof.Rows
section
variable {P : Program} {w : World} {K : PySem.W.Frag} {mg : Str → Option Value} {base : Heap}
/-! the law -/
theorem ok__law_told (T : Tx K mg) : FnOk P w K mg base CX0 7 T.a__law_told T.d__law_told ["_law_kind", "_law_which", "_law_more"] (PrN K P__law_told6) := by
  have G__law_triangle_asked : FnOk P w K mg base (L2.CX P w) 6 T.a__law_triangle_asked T.d__law_triangle_asked ["_law_which", "_law_more"] (SpX SpN (AskT T.C_BadTriangle)) := ok__law_triangle_asked T
  have G__law_small_asked : FnOk P w K mg base (L2.CX P w) 6 T.a__law_small_asked T.d__law_small_asked ["_law_which", "_law_more"] (SpX SpN (AskT T.C_BadSmall)) := ok__law_small_asked T
  have G__law_others_asked : FnOk P w K mg base (L2.CX P w) 6 T.a__law_others_asked T.d__law_others_asked ["_law_kind", "_law_which", "_law_more"] (SpX SpN (AskO T.C_BadTriangle T.C_BadSmall T.C_BadDoor T.C_BadSpot)) := ok__law_others_asked T
  refine T.F__law_told.ok sc__law_told (prnLen (n := 3) fun ds d h => by obtain ⟨_, _, _, _, _, _, _, _, rfl, _⟩ := h; rfl) (fun cdv A outer s H vs Q E hr h => ?_)
  refine ⟨_, (pss_cons (ps_try_as (i := 3) rfl rfl sc__law_told.nd rfl rfl ⟨rfl, by decide, .inl T.g_WalkError⟩ takes0 (fun W pn xe tk _ => (pss_one (ps_if (pt_cmpR (r := rEqD K) (op_eqD hr.units) (pv 0) pe_int (nomark _)) (pss_one (ps_expr (pe_callS G__law_triangle_asked (hr.mono (by decide)) (by rfl) T.g__law_triangle_asked T.F__law_triangle_asked.kp T.b__law_triangle_asked (fun σ => passAt tk σ) (pa_cons (pv 1) (pa_cons (pv 2) pa_nil))))) (pss_one (ps_if (pt_cmpR (r := rEqD K) (op_eqD hr.units) (pv 0) pe_int (nomark _)) (pss_one (ps_expr (pe_callS G__law_small_asked (hr.mono (by decide)) (by rfl) T.g__law_small_asked T.F__law_small_asked.kp T.b__law_small_asked (fun σ => passAt tk σ) (pa_cons (pv 1) (pa_cons (pv 2) pa_nil))))) (pss_one (ps_expr (pe_callS G__law_others_asked (hr.mono (by decide)) (by rfl) T.g__law_others_asked T.F__law_others_asked.kp T.b__law_others_asked (fun σ => passAt tk σ) (pa_cons (pv 0) (pa_cons (pv 1) (pa_cons (pv 2) pa_nil)))))))))))
     (fun a oe cls d pn hz hf => (pss_cons (ps_set (i := 4) sc__law_told.nd rfl (.inl rfl) (pe_lst (pa_cons (pe_callB (r := rIsX K cls d a) (call_isX hz hf) (by rfl) T.z_isinstance boot_isinstance (pa_cons (pv 3) (pa_cons (pe_glob (v := .ref T.C_BadTriangle) (by rfl) T.g_BadTriangle rfl) pa_nil))) (pa_cons (pe_callB (r := rIsX K cls d a) (call_isX hz hf) (by rfl) T.z_isinstance boot_isinstance (pa_cons (pv 3) (pa_cons (pe_glob (v := .ref T.C_BadSmall) (by rfl) T.g_BadSmall rfl) pa_nil))) (pa_cons (pe_callB (r := rIsX K cls d a) (call_isX hz hf) (by rfl) T.z_isinstance boot_isinstance (pa_cons (pv 3) (pa_cons (pe_glob (v := .ref T.C_BadDoor) (by rfl) T.g_BadDoor rfl) pa_nil))) pa_nil)))))
    (pss_one (ps_ret (pe_op op_cat (pv 4) (pe_lst (pa_cons (pe_callB (r := rIsX K cls d a) (call_isX hz hf) (by rfl) T.z_isinstance boot_isinstance (pa_cons (pv 3) (pa_cons (pe_glob (v := .ref T.C_BadSpot) (by rfl) T.g_BadSpot rfl) pa_nil))) (pa_cons (pe_callB (r := rIsX K cls d a) (call_isX hz hf) (by rfl) T.z_isinstance boot_isinstance (pa_cons (pv 3) (pa_cons (pe_bltn (v := .ty "ValueError") (by rfl) T.z_ValueError boot_ValueError rfl) pa_nil))) pa_nil)))))))))
    (pss_one (ps_ret (pe_lst pa_nil)))), ?_⟩
  obtain ⟨ds, es, hd, ⟨k, i, j, hk0, hk6, hi, hj, hj2, rfl, rfl⟩, q⟩ := h
  obtain ⟨v1, v2, v3, rfl, h1, h2, h3⟩ := dps3 hd
  have h1 := dpInt h1
  have h2 := dpInt h2
  have h3 := dpInt h3
  subst h1 h2 h3
  have n1 : ∀ {H : Hp} {σ : L2.St} {i : Nat} {x : Int}, σ[i]? = some (some (.int x)) → EvD K (tVar i) σ H (.int x) := fun h => edV h (.int _)
  refine s_if (b := decide (k = 0)) (etC (edEqI (n1 rfl) (cI 0))) (fun hb H1 e1 => ?_) (fun hb H1 e1 => ?_)
  · have hb : k = 0 := of_decide_eq_true hb
    subst hb
    refine sDropR (nvD (C := T.C_BadTriangle) (ds := [.int i, .int j]) (aCons (n1 rfl) (aCons (n1 rfl) aNil)) (fun vs H2 hd => ?_) fun H2 e2 => ?_)
    · obtain ⟨w1, w2, rfl, k1, k2⟩ := dps2 hd
      rw [dpInt k1, dpInt k2]
      exact ⟨rfl, i, j, hi, hj, hj2, rfl⟩
    · exact toldS T.x_BadTriangle T.w_WalkError T.i_BadTriangle_BadTriangle T.i_BadTriangle_BadSmall T.i_BadTriangle_BadDoor T.i_BadTriangle_BadSpot q (e1.trans e2)
  have hb : ¬ k = 0 := of_decide_eq_false hb
  refine s_if (b := decide (k = 1)) (etC (edEqI (n1 rfl) (cI 1))) (fun hb H2 e2 => ?_) (fun hb H2 e2 => ?_)
  · have hb : k = 1 := of_decide_eq_true hb
    subst hb
    refine sDropR (nvD (C := T.C_BadSmall) (ds := [.int i, .int j]) (aCons (n1 rfl) (aCons (n1 rfl) aNil)) (fun vs H2 hd => ?_) fun H3 e3 => ?_)
    · obtain ⟨w1, w2, rfl, k1, k2⟩ := dps2 hd
      rw [dpInt k1, dpInt k2]
      exact ⟨rfl, i, j, hi, hj, hj2, rfl⟩
    · exact toldS T.x_BadSmall T.w_WalkError T.i_BadSmall_BadTriangle T.i_BadSmall_BadSmall T.i_BadSmall_BadDoor T.i_BadSmall_BadSpot q ((e1.trans e2).trans e3)
  have hb1 : ¬ k = 1 := of_decide_eq_false hb
  have ask : ∀ (C : Addr), (C = if k = 2 then T.C_BadSmall else if k = 3 then T.C_BadDoor else if k = 4 then T.C_BadSpot else if i / 7 % 2 = 0 then T.C_BadSpot else T.C_BadTriangle) → ∀ vs H1, DpAll K H1 vs [.int k, .int i, .int j] → AskO T.C_BadTriangle T.C_BadSmall T.C_BadDoor T.C_BadSpot C vs H1 := fun C hC vs H1 hd => by
    obtain ⟨w1, w2, w3, rfl, k1, k2, k3⟩ := dps3 hd
    rw [dpInt k1, dpInt k2, dpInt k3]
    exact ⟨k, i, j, by omega, hk6, hi, hj, hj2, rfl, hC⟩
  have cases4 : k = 2 ∨ k = 3 ∨ k = 4 ∨ k = 5 := by omega
  have ev3 : ∀ {H : Hp}, EvAD K (tCons (tVar 0) (tCons (tVar 1) (tCons (tVar 2) tNil))) [some (.int k), some (.int i), some (.int j), none, none] H [.int k, .int i, .int j] := fun {H} => aCons (n1 rfl) (aCons (n1 rfl) (aCons (n1 rfl) aNil))
  rcases cases4 with rfl | rfl | rfl | rfl
  · exact sDropR (nvD (C := T.C_BadSmall) ev3 (ask _ rfl) fun H3 e3 => toldS T.x_BadSmall T.w_WalkError T.i_BadSmall_BadTriangle T.i_BadSmall_BadSmall T.i_BadSmall_BadDoor T.i_BadSmall_BadSpot q ((e1.trans e2).trans e3))
  · exact sDropR (nvD (C := T.C_BadDoor) ev3 (ask _ rfl) fun H3 e3 => toldS T.x_BadDoor T.w_WalkError T.i_BadDoor_BadTriangle T.i_BadDoor_BadSmall T.i_BadDoor_BadDoor T.i_BadDoor_BadSpot q ((e1.trans e2).trans e3))
  · exact sDropR (nvD (C := T.C_BadSpot) ev3 (ask _ rfl) fun H3 e3 => toldS T.x_BadSpot T.w_WalkError T.i_BadSpot_BadTriangle T.i_BadSpot_BadSmall T.i_BadSpot_BadDoor T.i_BadSpot_BadSpot q ((e1.trans e2).trans e3))
  · have w0 : 0 ≤ i / 7 % 2 := Int.emod_nonneg _ (by decide)
    have w1 : i / 7 % 2 < 2 := Int.emod_lt_of_pos _ (by decide)
    have two : i / 7 % 2 = 0 ∨ i / 7 % 2 = 1 := by omega
    rcases two with h0 | h0
    · have e : dueOf 5 i = [false, false, false, true, true] := by
        unfold dueOf
        rw [h0]
        rfl
      rw [e] at q
      exact sDropR (nvD (C := T.C_BadSpot) ev3 (ask _ (by rw [h0]; rfl)) fun H3 e3 => toldS T.x_BadSpot T.w_WalkError T.i_BadSpot_BadTriangle T.i_BadSpot_BadSmall T.i_BadSpot_BadDoor T.i_BadSpot_BadSpot q ((e1.trans e2).trans e3))
    · have e : dueOf 5 i = [true, false, false, false, true] := by
        unfold dueOf
        rw [h0]
        rfl
      rw [e] at q
      exact sDropR (nvD (C := T.C_BadTriangle) ev3 (ask _ (by rw [h0]; rfl)) fun H3 e3 => toldS T.x_BadTriangle T.w_WalkError T.i_BadTriangle_BadTriangle T.i_BadTriangle_BadSmall T.i_BadTriangle_BadDoor T.i_BadTriangle_BadSpot q ((e1.trans e2).trans e3))
theorem ok_law (T : Tx K mg) : FnOk P w K mg base CX0 8 T.a_law T.d_law ["_law_script"] (SpLaw K) := by
  have G_doors : FnOk P w K mg base (L2.CX P w) 4 T.a_doors T.d_doors ["triangle"] (SpX (PrN K P_doors) (BadT K T.C_BadTriangle 1)) := ok_doors T
  have G_turn : FnOk P w K mg base (L2.CX P w) 5 T.a_turn T.d_turn ["triangle", "small"] (SpX (PrD K P_turn_of) (ROr (BadT K T.C_BadTriangle 2) (RSmall K T.C_BadSmall))) := ok_turn T
  have G_put : FnOk P w K mg base (L2.CX P w) 4 T.a_put T.d_put ["triangle", "row", "place", "letter"] (SpX (PrN K P_put) (ROr (BadT K T.C_BadTriangle 4) (RSpot K T.C_BadSpot))) := ok_put T
  have G__law_told : FnOk P w K mg base CX0 7 T.a__law_told T.d__law_told ["_law_kind", "_law_which", "_law_more"] (PrN K P__law_told6) := ok__law_told T
  refine T.F_law.ok sc_law (fun vs H Q E h => by obtain ⟨a, ns, rfl, _⟩ := h; rfl) (fun cdv A outer s H vs Q E hr h => ?_)
  obtain ⟨a, ns, rfl, hS, hns, q⟩ := h
  refine ⟨_, (pss_cons (ps_for PassesOwn.never rfl (pi_list (pv 0)) (pg_name (i := 1) sc_law.nd rfl (.inl rfl))
      (pss_cons (ps_set (i := 2) sc_law.nd rfl (.inl rfl) (pe_op op_mod (pv 1) pe_int))
    (pss_cons (ps_set (i := 3) sc_law.nd rfl (.inl rfl) (pe_op op_mod (pe_op op_fdiv (pv 1) pe_int) pe_int))
    (pss_cons (ps_set (i := 4) sc_law.nd rfl (.inl rfl) (pe_or (pe_cmpR (r := rEqD K) (op_eqD hr.units) (pv 2) pe_int (nomark _)) (pe_one (pe_and (pe_cmpR (r := rEqD K) (op_eqD hr.units) (pv 2) pe_int (nomark _)) (pe_one (pe_cmpR (r := rEqD K) (op_eqD hr.units) (pe_op op_mod (pe_op op_fdiv (pv 3) pe_int) pe_int) pe_int (nomark _)))))))
    (pss_cons (ps_set (i := 5) sc_law.nd rfl (.inl rfl) (pe_lst (pa_cons (pv 4) (pa_cons (pe_cmpR (r := rIn K false) op_in_seq (pv 2) (pe_lst (pa_cons pe_int (pa_cons pe_int pa_nil))) (by with_unfolding_all rfl)) (pa_cons (pe_cmpR (r := rEqD K) (op_eqD hr.units) (pv 2) pe_int (nomark _)) (pa_cons (pe_and (pe_cmpR op_gt (pv 2) pe_int (nomark _)) (pe_one (pe_not (pv 4)))) (pa_cons pe_bl pa_nil)))))))
    (pss_one (ps_if (pt_cmpR (r := rNeD K) (op_neD hr.units) (pe_call G__law_told (hr.mono (by decide)) (by rfl) T.g__law_told T.F__law_told.kp T.b__law_told .nil pass0 (pa_cons (pv 2) (pa_cons (pv 3) (pa_cons (pe_op op_mod (pe_op op_fdiv (pv 1) pe_int) pe_int) pa_nil)))) (pv 5) (nomark _)) (pss_one (ps_ret pe_bl)) pss_nil)))))))
    (pss_cons (ps_if (PW.pt (pw_or (pt_cmpR (r := rNeD K) (op_neD hr.units) (pe_callS G_put (hr.mono (by decide)) (by rfl) T.g_put T.F_put.kp T.b_put (fun σ => passAt takes0 σ) (pa_cons (pe_lst (pa_cons pe_str (pa_cons pe_str pa_nil))) (pa_cons pe_int (pa_cons pe_int (pa_cons pe_str pa_nil))))) (pe_lst (pa_cons pe_str (pa_cons pe_str pa_nil))) (nomark _)) (pw_or1 (pt_cmpR (r := rNeD K) (op_neD hr.units) (pe_callS G_turn (hr.mono (by decide)) (by rfl) T.g_turn T.F_turn.kp T.b_turn (fun σ => passAt takes0 σ) (pa_cons (pe_lst (pa_cons pe_str (pa_cons pe_str pa_nil))) (pa_cons (pe_tup (pa_cons pe_int (pa_cons pe_int (pa_cons pe_int pa_nil)))) pa_nil))) pe_int (nomark _))))) (pss_one (ps_ret pe_bl)) pss_nil)
    (pss_one (ps_ret (pe_cmpR (r := rEqD K) (op_eqD hr.units) (pe_callS G_doors (hr.mono (by decide)) (by rfl) T.g_doors T.F_doors.kp T.b_doors (fun σ => passAt takes0 σ) (pa_cons (pe_lst (pa_cons pe_str (pa_cons pe_str (pa_cons pe_str pa_nil)))) pa_nil)) (pe_lst (pa_cons pe_int pa_nil)) (nomark _)))))), ?_⟩
  have n1 : ∀ {H : Hp} {σ : L2.St} {i : Nat} {x : Int}, σ[i]? = some (some (.int x)) → EvD K (tVar i) σ H (.int x) := fun h => edV h (.int _)
  have S : ∀ {H : Hp} {σ : L2.St} (x : Str), EvD K (tC (.str x)) σ H (.str x) := fun x => edS ev_c
  have I : ∀ {H : Hp} {σ : L2.St} (x : Int), EvD K (tC (.int x)) σ H (.int x) := fun x => edI ev_c
  have hsc : Dp K H (.ref a) (.list (ns.map .int)) := .lst hS (dpsInts ns)
  refine qFor ns (fun i => .int i) (idL (edV rfl hsc)) (fun i σ' => ∃ y1 y2 y3 y4 y5, σ' = [some (.ref a), y1, y2, y3, y4, y5]) ⟨_, _, _, _, _, rfl⟩ ?_ ?_
  · rintro H0 e0 ix cell hci σ1 H1 x ⟨y1, y2, y3, y4, y5, rfl⟩ e1 hx
    have hx := dpInt hx
    subst hx
    refine qAsg (K := K) (edI2c (n1 rfl) (cI 6) (by decide) rfl) fun v2 H2 e2 hv2 => ?_
    have hv2 := dpInt hv2
    subst hv2
    refine qAsg (K := K) (edI2c (edI2c (n1 rfl) (cI 6) ⟨by decide, by decide⟩ rfl) (cI 100000) (by decide) rfl) fun v3 H3 e3 hv3 => ?_
    have hv3 := dpInt hv3
    subst hv3
    have k0 : 0 ≤ cell % 6 := Int.emod_nonneg _ (by decide)
    have k6 : cell % 6 < 6 := Int.emod_lt_of_pos _ (by decide)
    have i0 : 0 ≤ cell / 6 % 100000 := Int.emod_nonneg _ (by decide)
    have j0 : 0 ≤ cell / 600000 % 1000 := Int.emod_nonneg _ (by decide)
    have j1 : cell / 600000 % 1000 < 1000 := Int.emod_lt_of_pos _ (by decide)
    generalize cell % 6 = k at k0 k6 ⊢
    generalize cell / 6 % 100000 = w at i0 ⊢
    refine qAsg (K := K) (d := .bool (decide (k = 0) || (decide (k = 5) && decide (w / 7 % 2 = 1)))) (edOr (edEqI (n1 rfl) (cI 0)) fun _ => edAnd (edEqI (n1 rfl) (cI 5)) fun _ => edEqI (edI2c (edI2c (n1 rfl) (cI 7) ⟨by decide, by decide⟩ rfl) (cI 2) (by decide) rfl) (cI 1)) fun v4 H4 e4 hv4 => ?_
    have f4 : ∀ {H : Hp} {σ : L2.St}, σ[4]? = some (some v4) → EvD K (tVar 4) σ H (.bool (decide (k = 0) || (decide (k = 5) && decide (w / 7 % 2 = 1)))) := fun h => edV h (by rw [dpBl hv4]; exact .bl _)
    refine qAsgN (ds := (dueOf k w).map .bool) (enLst (aCons (f4 rfl) (aCons (edInL (neg := false) (w := .int k) (ws := [.int 1, .int 2]) (n1 rfl) (edN (enLst (aCons (I 1) (aCons (I 2) aNil)) (Nat.le_of_ble_eq_true rfl))) rfl rfl rfl rfl (in12 k)) (aCons (edEqI (n1 rfl) (cI 3)) (aCons (edAnd (edGt (n1 rfl) (cI 3)) fun _ => edNot (f4 rfl)) (aCons (edB (b := true) ev_c) aNil))))) (Nat.le_of_ble_eq_true rfl)) fun p5 xs5 H5 hp5 e5 h5 d5 => ?_
    refine s_when (b := false) (et_test (evDiff (d := .list ((dueOf k w).map .bool)) (edN (enCall (aCons (n1 rfl) (aCons (n1 rfl) (aCons (edI2c (edI2c (n1 rfl) (cI 600000) ⟨by decide, by decide⟩ rfl) (cI 1000) (by decide) rfl) aNil))) ⟨k, w, _, k0, k6, i0, j0, j1, rfl, rfl⟩)) (edV rfl (dpOfL h5 d5)) (shDue k w))) (fun z => nomatch z) fun _ H6 e6 => ?_
    exact ⟨⟨_, _, _, _, _, rfl⟩, ((((e1.trans e2).trans e3).trans e4).trans e5).trans e6⟩
  · rintro σ1 H1 ⟨y1, y2, y3, y4, y5, rfl⟩ e1
    have triA : Tri 2 (gOf tA) := triOf (by decide) (by decide) (by decide)
    have triB : Tri 2 (gOf tB) := triOf (by decide) (by decide) (by decide)
    have tri3 : Tri 3 (gOf t3) := triOf (by decide) (by decide) (by decide)
    have triP : Tri 2 (putG (gOf tA) 1 0 97) := putTri triA (.inl rfl) 1 0
    have sA : (PyData.str "a") = .str ⟨#[97]⟩ := congrArg PyData.str (by decide +kernel)
    refine qSkip (orFF (et_test (evDiff (d := .list (triD 2 (putG (gOf tA) 1 0 97))) (edN (enCallS (aCons (edIs (edN (enLst (aCons (S "ab") (aCons (S "c") aNil)) (by decide))) (congrArg PyData.list tAIs)) (aCons (I 1) (aCons (I 0) (aCons (edIs (S "a") sA) aNil)))) ⟨2, gOf tA, 1, 0, 97, triA, by decide, .inl rfl, rfl, rfl⟩)) (edIs (edN (enLst (aCons (S "ab") (aCons (S "a") aNil)) (by decide))) (congrArg PyData.list putLit)) (shp (triOk triP))))
      (etC (edIs (edNeI (edCallS (aCons (edIs (edN (enLst (aCons (S "ab") (aCons (S "a") aNil)) (by decide))) (congrArg PyData.list tBIs)) (aCons (edTup (aCons (I 0) (aCons (I 0) (aCons (I 1) aNil))) (Nat.le_of_ble_eq_true rfl)) aNil)) ⟨2, gOf tB, (0, 0, 1), triB, .inl ⟨rfl, by decide⟩, rfl, rfl⟩) (cI 0)) (congrArg PyData.bool (by decide +kernel))))) fun H2 e2 => ?_
    refine sRet (K := K) (d := .bool true) (edB (evSame (d := .list [.int 1]) (edN (enIs (enCallS (aCons (edIs (edN (enLst (aCons (S "aab") (aCons (S "ab") (aCons (S "c") aNil))) (by decide))) (congrArg PyData.list t3Is)) aNil) ⟨3, gOf t3, tri3, rfl, rfl⟩) (by rw [doors3]; rfl))) (edN (enLst (aCons (I 1) aNil) (by decide))) rfl)) fun v' H3 e3 hv' => ?_
    rw [dpBl hv']
    exact q H3

end
end Dt

namespace Dt
open PySem L2 Evl
theorem all_mk {l : PySem.W.OpenLaw} {w : World} {K : PySem.W.Frag} {h : Heap} {mg : Str → Option Value} {fa : Addr} (X : K.In h) (G : h.Ns mainGlobals mg) (hfa : mg "law" = some (.ref fa))
    {f_is_number : Addr} {od_is_number an_is_number : Option Addr} {sl_is_number : Array (Option Value)} {oc_is_number kV_is_number dc_is_number pm_is_number cd_is_number ct_is_number : Value}
    {f_is_letter : Addr} {od_is_letter an_is_letter : Option Addr} {sl_is_letter : Array (Option Value)} {oc_is_letter kV_is_letter dc_is_letter pm_is_letter cd_is_letter ct_is_letter : Value}
    {f_is_row : Addr} {od_is_row an_is_row : Option Addr} {sl_is_row : Array (Option Value)} {oc_is_row kV_is_row dc_is_row pm_is_row cd_is_row ct_is_row : Value}
    {f_is_triangle : Addr} {od_is_triangle an_is_triangle : Option Addr} {sl_is_triangle : Array (Option Value)} {oc_is_triangle kV_is_triangle dc_is_triangle pm_is_triangle cd_is_triangle ct_is_triangle : Value}
    {f_is_spot : Addr} {od_is_spot an_is_spot : Option Addr} {sl_is_spot : Array (Option Value)} {oc_is_spot kV_is_spot dc_is_spot pm_is_spot cd_is_spot ct_is_spot : Value}
    {f_is_small : Addr} {od_is_small an_is_small : Option Addr} {sl_is_small : Array (Option Value)} {oc_is_small kV_is_small dc_is_small pm_is_small cd_is_small ct_is_small : Value}
    {f_check_triangle : Addr} {od_check_triangle an_check_triangle : Option Addr} {sl_check_triangle : Array (Option Value)} {oc_check_triangle kV_check_triangle dc_check_triangle pm_check_triangle cd_check_triangle ct_check_triangle : Value}
    {f_check_small : Addr} {od_check_small an_check_small : Option Addr} {sl_check_small : Array (Option Value)} {oc_check_small kV_check_small dc_check_small pm_check_small cd_check_small ct_check_small : Value}
    {f_corners : Addr} {od_corners an_corners : Option Addr} {sl_corners : Array (Option Value)} {oc_corners kV_corners dc_corners pm_corners cd_corners ct_corners : Value}
    {f_letters_at : Addr} {od_letters_at an_letters_at : Option Addr} {sl_letters_at : Array (Option Value)} {oc_letters_at kV_letters_at dc_letters_at pm_letters_at cd_letters_at ct_letters_at : Value}
    {f_turn_of : Addr} {od_turn_of an_turn_of : Option Addr} {sl_turn_of : Array (Option Value)} {oc_turn_of kV_turn_of dc_turn_of pm_turn_of cd_turn_of ct_turn_of : Value}
    {f_side_spots : Addr} {od_side_spots an_side_spots : Option Addr} {sl_side_spots : Array (Option Value)} {oc_side_spots kV_side_spots dc_side_spots pm_side_spots cd_side_spots ct_side_spots : Value}
    {f_side_steps : Addr} {od_side_steps an_side_steps : Option Addr} {sl_side_steps : Array (Option Value)} {oc_side_steps kV_side_steps dc_side_steps pm_side_steps cd_side_steps ct_side_steps : Value}
    {f_is_door : Addr} {od_is_door an_is_door : Option Addr} {sl_is_door : Array (Option Value)} {oc_is_door kV_is_door dc_is_door pm_is_door cd_is_door ct_is_door : Value}
    {f_fulls : Addr} {od_fulls an_fulls : Option Addr} {sl_fulls : Array (Option Value)} {oc_fulls kV_fulls dc_fulls pm_fulls cd_fulls ct_fulls : Value}
    {f_around : Addr} {od_around an_around : Option Addr} {sl_around : Array (Option Value)} {oc_around kV_around dc_around pm_around cd_around ct_around : Value}
    {f_doors : Addr} {od_doors an_doors : Option Addr} {sl_doors : Array (Option Value)} {oc_doors kV_doors dc_doors pm_doors cd_doors ct_doors : Value}
    {f_turn : Addr} {od_turn an_turn : Option Addr} {sl_turn : Array (Option Value)} {oc_turn kV_turn dc_turn pm_turn cd_turn ct_turn : Value}
    {f_put : Addr} {od_put an_put : Option Addr} {sl_put : Array (Option Value)} {oc_put kV_put dc_put pm_put cd_put ct_put : Value}
    {f_told : Addr} {od_told an_told : Option Addr} {sl_told : Array (Option Value)} {oc_told kV_told dc_told pm_told cd_told ct_told : Value}
    {f_walk : Addr} {od_walk an_walk : Option Addr} {sl_walk : Array (Option Value)} {oc_walk kV_walk dc_walk pm_walk cd_walk ct_walk : Value}
    {f_walk_out : Addr} {od_walk_out an_walk_out : Option Addr} {sl_walk_out : Array (Option Value)} {oc_walk_out kV_walk_out dc_walk_out pm_walk_out cd_walk_out ct_walk_out : Value}
    {f__law_triangle_asked : Addr} {od__law_triangle_asked an__law_triangle_asked : Option Addr} {sl__law_triangle_asked : Array (Option Value)} {oc__law_triangle_asked kV__law_triangle_asked dc__law_triangle_asked pm__law_triangle_asked cd__law_triangle_asked ct__law_triangle_asked : Value}
    {f__law_small_asked : Addr} {od__law_small_asked an__law_small_asked : Option Addr} {sl__law_small_asked : Array (Option Value)} {oc__law_small_asked kV__law_small_asked dc__law_small_asked pm__law_small_asked cd__law_small_asked ct__law_small_asked : Value}
    {f__law_others_asked : Addr} {od__law_others_asked an__law_others_asked : Option Addr} {sl__law_others_asked : Array (Option Value)} {oc__law_others_asked kV__law_others_asked dc__law_others_asked pm__law_others_asked cd__law_others_asked ct__law_others_asked : Value}
    {f__law_told : Addr} {od__law_told an__law_told : Option Addr} {sl__law_told : Array (Option Value)} {oc__law_told kV__law_told dc__law_told pm__law_told cd__law_told ct__law_told : Value}
    {f_law : Addr} {od_law an_law : Option Addr} {sl_law : Array (Option Value)} {oc_law kV_law dc_law pm_law cd_law ct_law : Value}
    {cc_WalkError : Addr}
    {cc_BadTriangle : Addr}
    {cc_BadSmall : Addr}
    {cc_BadDoor : Addr}
    {cc_BadSpot : Addr}
    {c_DOOR_STEPS : Addr} {t0_DOOR_STEPS t1_DOOR_STEPS : Tok} {n_DOOR_STEPS : Nat} {od_DOOR_STEPS : Option Addr} {sl_DOOR_STEPS : Array (Option Value)}
    {c_LEFT_ROUNDS : Addr} {t0_LEFT_ROUNDS t1_LEFT_ROUNDS t2_LEFT_ROUNDS : Tok} {n_LEFT_ROUNDS : Nat} {od_LEFT_ROUNDS : Option Addr} {sl_LEFT_ROUNDS : Array (Option Value)}
    {c_LETTERS : Addr} {t0_LETTERS t1_LETTERS t2_LETTERS : Tok} {n_LETTERS : Nat} {od_LETTERS : Option Addr} {sl_LETTERS : Array (Option Value)}
    {c_RIGHT_ROUNDS : Addr} {t0_RIGHT_ROUNDS t1_RIGHT_ROUNDS t2_RIGHT_ROUNDS : Tok} {n_RIGHT_ROUNDS : Nat} {od_RIGHT_ROUNDS : Option Addr} {sl_RIGHT_ROUNDS : Array (Option Value)}
    (a_WalkError : PySem.W.nsIn K mainGlobals "WalkError" = some (some (.ref cc_WalkError)))
    (a_BadTriangle : PySem.W.nsIn K mainGlobals "BadTriangle" = some (some (.ref cc_BadTriangle)))
    (a_BadSmall : PySem.W.nsIn K mainGlobals "BadSmall" = some (some (.ref cc_BadSmall)))
    (a_BadDoor : PySem.W.nsIn K mainGlobals "BadDoor" = some (some (.ref cc_BadDoor)))
    (a_BadSpot : PySem.W.nsIn K mainGlobals "BadSpot" = some (some (.ref cc_BadSpot)))
    (a_is_number : PySem.W.nsIn K mainGlobals "is_number" = some (some (.ref f_is_number)))
    (l_is_number : K.lookup f_is_number = some ⟨oc_is_number, od_is_number, .func (PySem.W.fnOf "is_number" "is_number" (defArgs s_is_number) (defBody s_is_number) (defScope s_is_number) .none kV_is_number dc_is_number pm_is_number an_is_number cd_is_number ct_is_number), sl_is_number⟩)
    (c_is_number : PySem.W.codeIn K cd_is_number "is_number" = true)
    (k_is_number : PySem.W.keepIn K (.ref f_is_number) = true)
    (a_is_letter : PySem.W.nsIn K mainGlobals "is_letter" = some (some (.ref f_is_letter)))
    (l_is_letter : K.lookup f_is_letter = some ⟨oc_is_letter, od_is_letter, .func (PySem.W.fnOf "is_letter" "is_letter" (defArgs s_is_letter) (defBody s_is_letter) (defScope s_is_letter) .none kV_is_letter dc_is_letter pm_is_letter an_is_letter cd_is_letter ct_is_letter), sl_is_letter⟩)
    (c_is_letter : PySem.W.codeIn K cd_is_letter "is_letter" = true)
    (k_is_letter : PySem.W.keepIn K (.ref f_is_letter) = true)
    (a_is_row : PySem.W.nsIn K mainGlobals "is_row" = some (some (.ref f_is_row)))
    (l_is_row : K.lookup f_is_row = some ⟨oc_is_row, od_is_row, .func (PySem.W.fnOf "is_row" "is_row" (defArgs s_is_row) (defBody s_is_row) (defScope s_is_row) .none kV_is_row dc_is_row pm_is_row an_is_row cd_is_row ct_is_row), sl_is_row⟩)
    (c_is_row : PySem.W.codeIn K cd_is_row "is_row" = true)
    (k_is_row : PySem.W.keepIn K (.ref f_is_row) = true)
    (a_is_triangle : PySem.W.nsIn K mainGlobals "is_triangle" = some (some (.ref f_is_triangle)))
    (l_is_triangle : K.lookup f_is_triangle = some ⟨oc_is_triangle, od_is_triangle, .func (PySem.W.fnOf "is_triangle" "is_triangle" (defArgs s_is_triangle) (defBody s_is_triangle) (defScope s_is_triangle) .none kV_is_triangle dc_is_triangle pm_is_triangle an_is_triangle cd_is_triangle ct_is_triangle), sl_is_triangle⟩)
    (c_is_triangle : PySem.W.codeIn K cd_is_triangle "is_triangle" = true)
    (k_is_triangle : PySem.W.keepIn K (.ref f_is_triangle) = true)
    (a_is_spot : PySem.W.nsIn K mainGlobals "is_spot" = some (some (.ref f_is_spot)))
    (l_is_spot : K.lookup f_is_spot = some ⟨oc_is_spot, od_is_spot, .func (PySem.W.fnOf "is_spot" "is_spot" (defArgs s_is_spot) (defBody s_is_spot) (defScope s_is_spot) .none kV_is_spot dc_is_spot pm_is_spot an_is_spot cd_is_spot ct_is_spot), sl_is_spot⟩)
    (c_is_spot : PySem.W.codeIn K cd_is_spot "is_spot" = true)
    (k_is_spot : PySem.W.keepIn K (.ref f_is_spot) = true)
    (a_is_small : PySem.W.nsIn K mainGlobals "is_small" = some (some (.ref f_is_small)))
    (l_is_small : K.lookup f_is_small = some ⟨oc_is_small, od_is_small, .func (PySem.W.fnOf "is_small" "is_small" (defArgs s_is_small) (defBody s_is_small) (defScope s_is_small) .none kV_is_small dc_is_small pm_is_small an_is_small cd_is_small ct_is_small), sl_is_small⟩)
    (c_is_small : PySem.W.codeIn K cd_is_small "is_small" = true)
    (k_is_small : PySem.W.keepIn K (.ref f_is_small) = true)
    (a_check_triangle : PySem.W.nsIn K mainGlobals "check_triangle" = some (some (.ref f_check_triangle)))
    (l_check_triangle : K.lookup f_check_triangle = some ⟨oc_check_triangle, od_check_triangle, .func (PySem.W.fnOf "check_triangle" "check_triangle" (defArgs s_check_triangle) (defBody s_check_triangle) (defScope s_check_triangle) .none kV_check_triangle dc_check_triangle pm_check_triangle an_check_triangle cd_check_triangle ct_check_triangle), sl_check_triangle⟩)
    (c_check_triangle : PySem.W.codeIn K cd_check_triangle "check_triangle" = true)
    (k_check_triangle : PySem.W.keepIn K (.ref f_check_triangle) = true)
    (a_check_small : PySem.W.nsIn K mainGlobals "check_small" = some (some (.ref f_check_small)))
    (l_check_small : K.lookup f_check_small = some ⟨oc_check_small, od_check_small, .func (PySem.W.fnOf "check_small" "check_small" (defArgs s_check_small) (defBody s_check_small) (defScope s_check_small) .none kV_check_small dc_check_small pm_check_small an_check_small cd_check_small ct_check_small), sl_check_small⟩)
    (c_check_small : PySem.W.codeIn K cd_check_small "check_small" = true)
    (k_check_small : PySem.W.keepIn K (.ref f_check_small) = true)
    (a_corners : PySem.W.nsIn K mainGlobals "corners" = some (some (.ref f_corners)))
    (l_corners : K.lookup f_corners = some ⟨oc_corners, od_corners, .func (PySem.W.fnOf "corners" "corners" (defArgs s_corners) (defBody s_corners) (defScope s_corners) .none kV_corners dc_corners pm_corners an_corners cd_corners ct_corners), sl_corners⟩)
    (c_corners : PySem.W.codeIn K cd_corners "corners" = true)
    (k_corners : PySem.W.keepIn K (.ref f_corners) = true)
    (a_letters_at : PySem.W.nsIn K mainGlobals "letters_at" = some (some (.ref f_letters_at)))
    (l_letters_at : K.lookup f_letters_at = some ⟨oc_letters_at, od_letters_at, .func (PySem.W.fnOf "letters_at" "letters_at" (defArgs s_letters_at) (defBody s_letters_at) (defScope s_letters_at) .none kV_letters_at dc_letters_at pm_letters_at an_letters_at cd_letters_at ct_letters_at), sl_letters_at⟩)
    (c_letters_at : PySem.W.codeIn K cd_letters_at "letters_at" = true)
    (k_letters_at : PySem.W.keepIn K (.ref f_letters_at) = true)
    (a_turn_of : PySem.W.nsIn K mainGlobals "turn_of" = some (some (.ref f_turn_of)))
    (l_turn_of : K.lookup f_turn_of = some ⟨oc_turn_of, od_turn_of, .func (PySem.W.fnOf "turn_of" "turn_of" (defArgs s_turn_of) (defBody s_turn_of) (defScope s_turn_of) .none kV_turn_of dc_turn_of pm_turn_of an_turn_of cd_turn_of ct_turn_of), sl_turn_of⟩)
    (c_turn_of : PySem.W.codeIn K cd_turn_of "turn_of" = true)
    (k_turn_of : PySem.W.keepIn K (.ref f_turn_of) = true)
    (a_side_spots : PySem.W.nsIn K mainGlobals "side_spots" = some (some (.ref f_side_spots)))
    (l_side_spots : K.lookup f_side_spots = some ⟨oc_side_spots, od_side_spots, .func (PySem.W.fnOf "side_spots" "side_spots" (defArgs s_side_spots) (defBody s_side_spots) (defScope s_side_spots) .none kV_side_spots dc_side_spots pm_side_spots an_side_spots cd_side_spots ct_side_spots), sl_side_spots⟩)
    (c_side_spots : PySem.W.codeIn K cd_side_spots "side_spots" = true)
    (k_side_spots : PySem.W.keepIn K (.ref f_side_spots) = true)
    (a_side_steps : PySem.W.nsIn K mainGlobals "side_steps" = some (some (.ref f_side_steps)))
    (l_side_steps : K.lookup f_side_steps = some ⟨oc_side_steps, od_side_steps, .func (PySem.W.fnOf "side_steps" "side_steps" (defArgs s_side_steps) (defBody s_side_steps) (defScope s_side_steps) .none kV_side_steps dc_side_steps pm_side_steps an_side_steps cd_side_steps ct_side_steps), sl_side_steps⟩)
    (c_side_steps : PySem.W.codeIn K cd_side_steps "side_steps" = true)
    (k_side_steps : PySem.W.keepIn K (.ref f_side_steps) = true)
    (a_is_door : PySem.W.nsIn K mainGlobals "is_door" = some (some (.ref f_is_door)))
    (l_is_door : K.lookup f_is_door = some ⟨oc_is_door, od_is_door, .func (PySem.W.fnOf "is_door" "is_door" (defArgs s_is_door) (defBody s_is_door) (defScope s_is_door) .none kV_is_door dc_is_door pm_is_door an_is_door cd_is_door ct_is_door), sl_is_door⟩)
    (c_is_door : PySem.W.codeIn K cd_is_door "is_door" = true)
    (k_is_door : PySem.W.keepIn K (.ref f_is_door) = true)
    (a_fulls : PySem.W.nsIn K mainGlobals "fulls" = some (some (.ref f_fulls)))
    (l_fulls : K.lookup f_fulls = some ⟨oc_fulls, od_fulls, .func (PySem.W.fnOf "fulls" "fulls" (defArgs s_fulls) (defBody s_fulls) (defScope s_fulls) .none kV_fulls dc_fulls pm_fulls an_fulls cd_fulls ct_fulls), sl_fulls⟩)
    (c_fulls : PySem.W.codeIn K cd_fulls "fulls" = true)
    (k_fulls : PySem.W.keepIn K (.ref f_fulls) = true)
    (a_around : PySem.W.nsIn K mainGlobals "around" = some (some (.ref f_around)))
    (l_around : K.lookup f_around = some ⟨oc_around, od_around, .func (PySem.W.fnOf "around" "around" (defArgs s_around) (defBody s_around) (defScope s_around) .none kV_around dc_around pm_around an_around cd_around ct_around), sl_around⟩)
    (c_around : PySem.W.codeIn K cd_around "around" = true)
    (k_around : PySem.W.keepIn K (.ref f_around) = true)
    (a_doors : PySem.W.nsIn K mainGlobals "doors" = some (some (.ref f_doors)))
    (l_doors : K.lookup f_doors = some ⟨oc_doors, od_doors, .func (PySem.W.fnOf "doors" "doors" (defArgs s_doors) (defBody s_doors) (defScope s_doors) .none kV_doors dc_doors pm_doors an_doors cd_doors ct_doors), sl_doors⟩)
    (c_doors : PySem.W.codeIn K cd_doors "doors" = true)
    (k_doors : PySem.W.keepIn K (.ref f_doors) = true)
    (a_turn : PySem.W.nsIn K mainGlobals "turn" = some (some (.ref f_turn)))
    (l_turn : K.lookup f_turn = some ⟨oc_turn, od_turn, .func (PySem.W.fnOf "turn" "turn" (defArgs s_turn) (defBody s_turn) (defScope s_turn) .none kV_turn dc_turn pm_turn an_turn cd_turn ct_turn), sl_turn⟩)
    (c_turn : PySem.W.codeIn K cd_turn "turn" = true)
    (k_turn : PySem.W.keepIn K (.ref f_turn) = true)
    (a_put : PySem.W.nsIn K mainGlobals "put" = some (some (.ref f_put)))
    (l_put : K.lookup f_put = some ⟨oc_put, od_put, .func (PySem.W.fnOf "put" "put" (defArgs s_put) (defBody s_put) (defScope s_put) .none kV_put dc_put pm_put an_put cd_put ct_put), sl_put⟩)
    (c_put : PySem.W.codeIn K cd_put "put" = true)
    (k_put : PySem.W.keepIn K (.ref f_put) = true)
    (a_told : PySem.W.nsIn K mainGlobals "told" = some (some (.ref f_told)))
    (l_told : K.lookup f_told = some ⟨oc_told, od_told, .func (PySem.W.fnOf "told" "told" (defArgs s_told) (defBody s_told) (defScope s_told) .none kV_told dc_told pm_told an_told cd_told ct_told), sl_told⟩)
    (c_told : PySem.W.codeIn K cd_told "told" = true)
    (k_told : PySem.W.keepIn K (.ref f_told) = true)
    (a_walk : PySem.W.nsIn K mainGlobals "walk" = some (some (.ref f_walk)))
    (l_walk : K.lookup f_walk = some ⟨oc_walk, od_walk, .func (PySem.W.fnOf "walk" "walk" (defArgs s_walk) (defBody s_walk) (defScope s_walk) .none kV_walk dc_walk pm_walk an_walk cd_walk ct_walk), sl_walk⟩)
    (c_walk : PySem.W.codeIn K cd_walk "walk" = true)
    (k_walk : PySem.W.keepIn K (.ref f_walk) = true)
    (a_walk_out : PySem.W.nsIn K mainGlobals "walk_out" = some (some (.ref f_walk_out)))
    (l_walk_out : K.lookup f_walk_out = some ⟨oc_walk_out, od_walk_out, .func (PySem.W.fnOf "walk_out" "walk_out" (defArgs s_walk_out) (defBody s_walk_out) (defScope s_walk_out) .none kV_walk_out dc_walk_out pm_walk_out an_walk_out cd_walk_out ct_walk_out), sl_walk_out⟩)
    (c_walk_out : PySem.W.codeIn K cd_walk_out "walk_out" = true)
    (k_walk_out : PySem.W.keepIn K (.ref f_walk_out) = true)
    (a__law_triangle_asked : PySem.W.nsIn K mainGlobals "_law_triangle_asked" = some (some (.ref f__law_triangle_asked)))
    (l__law_triangle_asked : K.lookup f__law_triangle_asked = some ⟨oc__law_triangle_asked, od__law_triangle_asked, .func (PySem.W.fnOf "_law_triangle_asked" "_law_triangle_asked" (defArgs s__law_triangle_asked) (defBody s__law_triangle_asked) (defScope s__law_triangle_asked) .none kV__law_triangle_asked dc__law_triangle_asked pm__law_triangle_asked an__law_triangle_asked cd__law_triangle_asked ct__law_triangle_asked), sl__law_triangle_asked⟩)
    (c__law_triangle_asked : PySem.W.codeIn K cd__law_triangle_asked "_law_triangle_asked" = true)
    (k__law_triangle_asked : PySem.W.keepIn K (.ref f__law_triangle_asked) = true)
    (a__law_small_asked : PySem.W.nsIn K mainGlobals "_law_small_asked" = some (some (.ref f__law_small_asked)))
    (l__law_small_asked : K.lookup f__law_small_asked = some ⟨oc__law_small_asked, od__law_small_asked, .func (PySem.W.fnOf "_law_small_asked" "_law_small_asked" (defArgs s__law_small_asked) (defBody s__law_small_asked) (defScope s__law_small_asked) .none kV__law_small_asked dc__law_small_asked pm__law_small_asked an__law_small_asked cd__law_small_asked ct__law_small_asked), sl__law_small_asked⟩)
    (c__law_small_asked : PySem.W.codeIn K cd__law_small_asked "_law_small_asked" = true)
    (k__law_small_asked : PySem.W.keepIn K (.ref f__law_small_asked) = true)
    (a__law_others_asked : PySem.W.nsIn K mainGlobals "_law_others_asked" = some (some (.ref f__law_others_asked)))
    (l__law_others_asked : K.lookup f__law_others_asked = some ⟨oc__law_others_asked, od__law_others_asked, .func (PySem.W.fnOf "_law_others_asked" "_law_others_asked" (defArgs s__law_others_asked) (defBody s__law_others_asked) (defScope s__law_others_asked) .none kV__law_others_asked dc__law_others_asked pm__law_others_asked an__law_others_asked cd__law_others_asked ct__law_others_asked), sl__law_others_asked⟩)
    (c__law_others_asked : PySem.W.codeIn K cd__law_others_asked "_law_others_asked" = true)
    (k__law_others_asked : PySem.W.keepIn K (.ref f__law_others_asked) = true)
    (a__law_told : PySem.W.nsIn K mainGlobals "_law_told" = some (some (.ref f__law_told)))
    (l__law_told : K.lookup f__law_told = some ⟨oc__law_told, od__law_told, .func (PySem.W.fnOf "_law_told" "_law_told" (defArgs s__law_told) (defBody s__law_told) (defScope s__law_told) .none kV__law_told dc__law_told pm__law_told an__law_told cd__law_told ct__law_told), sl__law_told⟩)
    (c__law_told : PySem.W.codeIn K cd__law_told "_law_told" = true)
    (k__law_told : PySem.W.keepIn K (.ref f__law_told) = true)
    (a_law : PySem.W.nsIn K mainGlobals "law" = some (some (.ref f_law)))
    (l_law : K.lookup f_law = some ⟨oc_law, od_law, .func (PySem.W.fnOf "law" "law" (defArgs s_law) (defBody s_law) (defScope s_law) .none kV_law dc_law pm_law an_law cd_law ct_law), sl_law⟩)
    (c_law : PySem.W.codeIn K cd_law "law" = true)
    (k_law : PySem.W.keepIn K (.ref f_law) = true)
    (z_ValueError : PySem.W.nsIn K mainGlobals "ValueError" = some none)
    (z_all : PySem.W.nsIn K mainGlobals "all" = some none)
    (z_bool : PySem.W.nsIn K mainGlobals "bool" = some none)
    (z_enumerate : PySem.W.nsIn K mainGlobals "enumerate" = some none)
    (z_int : PySem.W.nsIn K mainGlobals "int" = some none)
    (z_isinstance : PySem.W.nsIn K mainGlobals "isinstance" = some none)
    (z_len : PySem.W.nsIn K mainGlobals "len" = some none)
    (z_list : PySem.W.nsIn K mainGlobals "list" = some none)
    (z_range : PySem.W.nsIn K mainGlobals "range" = some none)
    (z_str : PySem.W.nsIn K mainGlobals "str" = some none)
    (z_tuple : PySem.W.nsIn K mainGlobals "tuple" = some none)
    (z_zip : PySem.W.nsIn K mainGlobals "zip" = some none)
    (a_DOOR_STEPS : PySem.W.nsIn K mainGlobals "DOOR_STEPS" = some (some (.ref c_DOOR_STEPS)))
    (l_DOOR_STEPS : K.lookup c_DOOR_STEPS = some ⟨.type "tuple", od_DOOR_STEPS, .seq #[.str "ab" t0_DOOR_STEPS, .str "ba" t1_DOOR_STEPS] n_DOOR_STEPS, sl_DOOR_STEPS⟩)
    (a_LEFT_ROUNDS : PySem.W.nsIn K mainGlobals "LEFT_ROUNDS" = some (some (.ref c_LEFT_ROUNDS)))
    (l_LEFT_ROUNDS : K.lookup c_LEFT_ROUNDS = some ⟨.type "tuple", od_LEFT_ROUNDS, .seq #[.str "abc" t0_LEFT_ROUNDS, .str "bca" t1_LEFT_ROUNDS, .str "cab" t2_LEFT_ROUNDS] n_LEFT_ROUNDS, sl_LEFT_ROUNDS⟩)
    (a_LETTERS : PySem.W.nsIn K mainGlobals "LETTERS" = some (some (.ref c_LETTERS)))
    (l_LETTERS : K.lookup c_LETTERS = some ⟨.type "tuple", od_LETTERS, .seq #[.str "a" t0_LETTERS, .str "b" t1_LETTERS, .str "c" t2_LETTERS] n_LETTERS, sl_LETTERS⟩)
    (a_RIGHT_ROUNDS : PySem.W.nsIn K mainGlobals "RIGHT_ROUNDS" = some (some (.ref c_RIGHT_ROUNDS)))
    (l_RIGHT_ROUNDS : K.lookup c_RIGHT_ROUNDS = some ⟨.type "tuple", od_RIGHT_ROUNDS, .seq #[.str "acb" t0_RIGHT_ROUNDS, .str "cba" t1_RIGHT_ROUNDS, .str "bac" t2_RIGHT_ROUNDS] n_RIGHT_ROUNDS, sl_RIGHT_ROUNDS⟩)
    (ex_BadTriangle : PySem.W.excIn K cc_BadTriangle vErr "ValueError.__new__" = true)
    (kp_BadTriangle : PySem.W.keepIn K (.ref cc_BadTriangle) = true)
    (sb_BadTriangle : PySem.W.subIn K (.ref cc_BadTriangle) (.type "BaseException") = some true)
    (ty_BadTriangle : PySem.W.typeIn K (.ref cc_BadTriangle) = some (.type "type"))
    (wk_BadTriangle : PySem.W.subIn K (.ref cc_BadTriangle) (.ref cc_WalkError) = some true)
    (ve_BadTriangle : PySem.W.kitOne K (.ref cc_BadTriangle) (.type "ValueError") = some true)
    (hg_BadTriangle : PySem.W.findIn K (.ref cc_BadTriangle) "__getattribute__" = some (some (.builtin "BaseException.__getattribute__")))
    (hk_BadTriangle : PySem.W.findIn K (.ref cc_BadTriangle) "__getattr__" = some none)
    (hd_BadTriangle : PySem.W.hasDictIn K cc_BadTriangle = true)
    (ha_BadTriangle : PySem.W.findIn K (.ref cc_BadTriangle) "__class__" = some (some (.builtin "object.__class__")))
    (hm_BadTriangle : PySem.W.mroIn K cc_BadTriangle (.type "object") = some true)
    (ex_BadSmall : PySem.W.excIn K cc_BadSmall vErr "ValueError.__new__" = true)
    (kp_BadSmall : PySem.W.keepIn K (.ref cc_BadSmall) = true)
    (sb_BadSmall : PySem.W.subIn K (.ref cc_BadSmall) (.type "BaseException") = some true)
    (ty_BadSmall : PySem.W.typeIn K (.ref cc_BadSmall) = some (.type "type"))
    (wk_BadSmall : PySem.W.subIn K (.ref cc_BadSmall) (.ref cc_WalkError) = some true)
    (ve_BadSmall : PySem.W.kitOne K (.ref cc_BadSmall) (.type "ValueError") = some true)
    (hg_BadSmall : PySem.W.findIn K (.ref cc_BadSmall) "__getattribute__" = some (some (.builtin "BaseException.__getattribute__")))
    (hk_BadSmall : PySem.W.findIn K (.ref cc_BadSmall) "__getattr__" = some none)
    (hd_BadSmall : PySem.W.hasDictIn K cc_BadSmall = true)
    (ha_BadSmall : PySem.W.findIn K (.ref cc_BadSmall) "__class__" = some (some (.builtin "object.__class__")))
    (hm_BadSmall : PySem.W.mroIn K cc_BadSmall (.type "object") = some true)
    (ex_BadDoor : PySem.W.excIn K cc_BadDoor vErr "ValueError.__new__" = true)
    (kp_BadDoor : PySem.W.keepIn K (.ref cc_BadDoor) = true)
    (sb_BadDoor : PySem.W.subIn K (.ref cc_BadDoor) (.type "BaseException") = some true)
    (ty_BadDoor : PySem.W.typeIn K (.ref cc_BadDoor) = some (.type "type"))
    (wk_BadDoor : PySem.W.subIn K (.ref cc_BadDoor) (.ref cc_WalkError) = some true)
    (ve_BadDoor : PySem.W.kitOne K (.ref cc_BadDoor) (.type "ValueError") = some true)
    (hg_BadDoor : PySem.W.findIn K (.ref cc_BadDoor) "__getattribute__" = some (some (.builtin "BaseException.__getattribute__")))
    (hk_BadDoor : PySem.W.findIn K (.ref cc_BadDoor) "__getattr__" = some none)
    (hd_BadDoor : PySem.W.hasDictIn K cc_BadDoor = true)
    (ha_BadDoor : PySem.W.findIn K (.ref cc_BadDoor) "__class__" = some (some (.builtin "object.__class__")))
    (hm_BadDoor : PySem.W.mroIn K cc_BadDoor (.type "object") = some true)
    (ex_BadSpot : PySem.W.excIn K cc_BadSpot vErr "ValueError.__new__" = true)
    (kp_BadSpot : PySem.W.keepIn K (.ref cc_BadSpot) = true)
    (sb_BadSpot : PySem.W.subIn K (.ref cc_BadSpot) (.type "BaseException") = some true)
    (ty_BadSpot : PySem.W.typeIn K (.ref cc_BadSpot) = some (.type "type"))
    (wk_BadSpot : PySem.W.subIn K (.ref cc_BadSpot) (.ref cc_WalkError) = some true)
    (ve_BadSpot : PySem.W.kitOne K (.ref cc_BadSpot) (.type "ValueError") = some true)
    (hg_BadSpot : PySem.W.findIn K (.ref cc_BadSpot) "__getattribute__" = some (some (.builtin "BaseException.__getattribute__")))
    (hk_BadSpot : PySem.W.findIn K (.ref cc_BadSpot) "__getattr__" = some none)
    (hd_BadSpot : PySem.W.hasDictIn K cc_BadSpot = true)
    (ha_BadSpot : PySem.W.findIn K (.ref cc_BadSpot) "__class__" = some (some (.builtin "object.__class__")))
    (hm_BadSpot : PySem.W.mroIn K cc_BadSpot (.type "object") = some true)
    (wsb : PySem.W.subIn K (.ref cc_WalkError) (.type "BaseException") = some true)
    (wty : PySem.W.typeIn K (.ref cc_WalkError) = some (.type "type"))
    (whd : PySem.W.hasDictIn K cc_WalkError = true)
    (gs : PySem.W.specialIn K (.builtin "object.__class__") "__get__" = some (some (.builtin "getset_descriptor.__get__")))
    (tks : PySem.W.takesIn K (.builtin "object.__class__") = some true)
    (i_BadTriangle_BadTriangle : PySem.W.kitOne K (.ref cc_BadTriangle) (.ref cc_BadTriangle) = some true)
    (i_BadTriangle_BadSmall : PySem.W.kitOne K (.ref cc_BadTriangle) (.ref cc_BadSmall) = some false)
    (i_BadTriangle_BadDoor : PySem.W.kitOne K (.ref cc_BadTriangle) (.ref cc_BadDoor) = some false)
    (i_BadTriangle_BadSpot : PySem.W.kitOne K (.ref cc_BadTriangle) (.ref cc_BadSpot) = some false)
    (i_BadSmall_BadTriangle : PySem.W.kitOne K (.ref cc_BadSmall) (.ref cc_BadTriangle) = some false)
    (i_BadSmall_BadSmall : PySem.W.kitOne K (.ref cc_BadSmall) (.ref cc_BadSmall) = some true)
    (i_BadSmall_BadDoor : PySem.W.kitOne K (.ref cc_BadSmall) (.ref cc_BadDoor) = some false)
    (i_BadSmall_BadSpot : PySem.W.kitOne K (.ref cc_BadSmall) (.ref cc_BadSpot) = some false)
    (i_BadDoor_BadTriangle : PySem.W.kitOne K (.ref cc_BadDoor) (.ref cc_BadTriangle) = some false)
    (i_BadDoor_BadSmall : PySem.W.kitOne K (.ref cc_BadDoor) (.ref cc_BadSmall) = some false)
    (i_BadDoor_BadDoor : PySem.W.kitOne K (.ref cc_BadDoor) (.ref cc_BadDoor) = some true)
    (i_BadDoor_BadSpot : PySem.W.kitOne K (.ref cc_BadDoor) (.ref cc_BadSpot) = some false)
    (i_BadSpot_BadTriangle : PySem.W.kitOne K (.ref cc_BadSpot) (.ref cc_BadTriangle) = some false)
    (i_BadSpot_BadSmall : PySem.W.kitOne K (.ref cc_BadSpot) (.ref cc_BadSmall) = some false)
    (i_BadSpot_BadDoor : PySem.W.kitOne K (.ref cc_BadSpot) (.ref cc_BadDoor) = some false)
    (i_BadSpot_BadSpot : PySem.W.kitOne K (.ref cc_BadSpot) (.ref cc_BadSpot) = some true)
    : ∃ fd : FuncData, (∀ (s : Shared) (v : Value), BindsTo s fd ⟨[v], []⟩ [("_law_script", v)]) ∧ ∀ base : Heap, K.In base → base.Ns mainGlobals mg → FnOk l.prog w K mg base CX0 8 fa fd ["_law_script"] (SpLaw K) := by
  have e := hfa.symm.trans (PySem.W.mg_of X G a_law)
  cases e
  exact ⟨_, fun s v => .of_eq rfl, fun base _ _ => ok_law ({
    C_WalkError := cc_WalkError,
    g_WalkError := PySem.W.mg_of X G a_WalkError,
    C_BadTriangle := cc_BadTriangle,
    g_BadTriangle := PySem.W.mg_of X G a_BadTriangle,
    C_BadSmall := cc_BadSmall,
    g_BadSmall := PySem.W.mg_of X G a_BadSmall,
    C_BadDoor := cc_BadDoor,
    g_BadDoor := PySem.W.mg_of X G a_BadDoor,
    C_BadSpot := cc_BadSpot,
    g_BadSpot := PySem.W.mg_of X G a_BadSpot,
    a_is_number := f_is_number,
    d_is_number := _,
    F_is_number := fun_mk (st := s_is_number) l_is_number c_is_number k_is_number,
    b_is_number := (fun_mk (st := s_is_number) l_is_number c_is_number k_is_number).binds (ps := ["value"]) fun _ _ _ _ _ _ us hl => match us, hl with | [_], _ => rfl,
    g_is_number := PySem.W.mg_of X G a_is_number,
    a_is_letter := f_is_letter,
    d_is_letter := _,
    F_is_letter := fun_mk (st := s_is_letter) l_is_letter c_is_letter k_is_letter,
    b_is_letter := (fun_mk (st := s_is_letter) l_is_letter c_is_letter k_is_letter).binds (ps := ["value"]) fun _ _ _ _ _ _ us hl => match us, hl with | [_], _ => rfl,
    g_is_letter := PySem.W.mg_of X G a_is_letter,
    a_is_row := f_is_row,
    d_is_row := _,
    F_is_row := fun_mk (st := s_is_row) l_is_row c_is_row k_is_row,
    b_is_row := (fun_mk (st := s_is_row) l_is_row c_is_row k_is_row).binds (ps := ["row", "many"]) fun _ _ _ _ _ _ us hl => match us, hl with | [_, _], _ => rfl,
    g_is_row := PySem.W.mg_of X G a_is_row,
    a_is_triangle := f_is_triangle,
    d_is_triangle := _,
    F_is_triangle := fun_mk (st := s_is_triangle) l_is_triangle c_is_triangle k_is_triangle,
    b_is_triangle := (fun_mk (st := s_is_triangle) l_is_triangle c_is_triangle k_is_triangle).binds (ps := ["triangle"]) fun _ _ _ _ _ _ us hl => match us, hl with | [_], _ => rfl,
    g_is_triangle := PySem.W.mg_of X G a_is_triangle,
    a_is_spot := f_is_spot,
    d_is_spot := _,
    F_is_spot := fun_mk (st := s_is_spot) l_is_spot c_is_spot k_is_spot,
    b_is_spot := (fun_mk (st := s_is_spot) l_is_spot c_is_spot k_is_spot).binds (ps := ["triangle", "row", "place"]) fun _ _ _ _ _ _ us hl => match us, hl with | [_, _, _], _ => rfl,
    g_is_spot := PySem.W.mg_of X G a_is_spot,
    a_is_small := f_is_small,
    d_is_small := _,
    F_is_small := fun_mk (st := s_is_small) l_is_small c_is_small k_is_small,
    b_is_small := (fun_mk (st := s_is_small) l_is_small c_is_small k_is_small).binds (ps := ["triangle", "small"]) fun _ _ _ _ _ _ us hl => match us, hl with | [_, _], _ => rfl,
    g_is_small := PySem.W.mg_of X G a_is_small,
    a_check_triangle := f_check_triangle,
    d_check_triangle := _,
    F_check_triangle := fun_mk (st := s_check_triangle) l_check_triangle c_check_triangle k_check_triangle,
    b_check_triangle := (fun_mk (st := s_check_triangle) l_check_triangle c_check_triangle k_check_triangle).binds (ps := ["triangle"]) fun _ _ _ _ _ _ us hl => match us, hl with | [_], _ => rfl,
    g_check_triangle := PySem.W.mg_of X G a_check_triangle,
    a_check_small := f_check_small,
    d_check_small := _,
    F_check_small := fun_mk (st := s_check_small) l_check_small c_check_small k_check_small,
    b_check_small := (fun_mk (st := s_check_small) l_check_small c_check_small k_check_small).binds (ps := ["triangle", "small"]) fun _ _ _ _ _ _ us hl => match us, hl with | [_, _], _ => rfl,
    g_check_small := PySem.W.mg_of X G a_check_small,
    a_corners := f_corners,
    d_corners := _,
    F_corners := fun_mk (st := s_corners) l_corners c_corners k_corners,
    b_corners := (fun_mk (st := s_corners) l_corners c_corners k_corners).binds (ps := ["small"]) fun _ _ _ _ _ _ us hl => match us, hl with | [_], _ => rfl,
    g_corners := PySem.W.mg_of X G a_corners,
    a_letters_at := f_letters_at,
    d_letters_at := _,
    F_letters_at := fun_mk (st := s_letters_at) l_letters_at c_letters_at k_letters_at,
    b_letters_at := (fun_mk (st := s_letters_at) l_letters_at c_letters_at k_letters_at).binds (ps := ["triangle", "spots"]) fun _ _ _ _ _ _ us hl => match us, hl with | [_, _], _ => rfl,
    g_letters_at := PySem.W.mg_of X G a_letters_at,
    a_turn_of := f_turn_of,
    d_turn_of := _,
    F_turn_of := fun_mk (st := s_turn_of) l_turn_of c_turn_of k_turn_of,
    b_turn_of := (fun_mk (st := s_turn_of) l_turn_of c_turn_of k_turn_of).binds (ps := ["triangle", "small"]) fun _ _ _ _ _ _ us hl => match us, hl with | [_, _], _ => rfl,
    g_turn_of := PySem.W.mg_of X G a_turn_of,
    a_side_spots := f_side_spots,
    d_side_spots := _,
    F_side_spots := fun_mk (st := s_side_spots) l_side_spots c_side_spots k_side_spots,
    b_side_spots := (fun_mk (st := s_side_spots) l_side_spots c_side_spots k_side_spots).binds (ps := ["triangle"]) fun _ _ _ _ _ _ us hl => match us, hl with | [_], _ => rfl,
    g_side_spots := PySem.W.mg_of X G a_side_spots,
    a_side_steps := f_side_steps,
    d_side_steps := _,
    F_side_steps := fun_mk (st := s_side_steps) l_side_steps c_side_steps k_side_steps,
    b_side_steps := (fun_mk (st := s_side_steps) l_side_steps c_side_steps k_side_steps).binds (ps := ["triangle"]) fun _ _ _ _ _ _ us hl => match us, hl with | [_], _ => rfl,
    g_side_steps := PySem.W.mg_of X G a_side_steps,
    a_is_door := f_is_door,
    d_is_door := _,
    F_is_door := fun_mk (st := s_is_door) l_is_door c_is_door k_is_door,
    b_is_door := (fun_mk (st := s_is_door) l_is_door c_is_door k_is_door).binds (ps := ["triangle", "step"]) fun _ _ _ _ _ _ us hl => match us, hl with | [_, _], _ => rfl,
    g_is_door := PySem.W.mg_of X G a_is_door,
    a_fulls := f_fulls,
    d_fulls := _,
    F_fulls := fun_mk (st := s_fulls) l_fulls c_fulls k_fulls,
    b_fulls := (fun_mk (st := s_fulls) l_fulls c_fulls k_fulls).binds (ps := ["triangle"]) fun _ _ _ _ _ _ us hl => match us, hl with | [_], _ => rfl,
    g_fulls := PySem.W.mg_of X G a_fulls,
    a_around := f_around,
    d_around := _,
    F_around := fun_mk (st := s_around) l_around c_around k_around,
    b_around := (fun_mk (st := s_around) l_around c_around k_around).binds (ps := ["triangle"]) fun _ _ _ _ _ _ us hl => match us, hl with | [_], _ => rfl,
    g_around := PySem.W.mg_of X G a_around,
    a_doors := f_doors,
    d_doors := _,
    F_doors := fun_mk (st := s_doors) l_doors c_doors k_doors,
    b_doors := (fun_mk (st := s_doors) l_doors c_doors k_doors).binds (ps := ["triangle"]) fun _ _ _ _ _ _ us hl => match us, hl with | [_], _ => rfl,
    g_doors := PySem.W.mg_of X G a_doors,
    a_turn := f_turn,
    d_turn := _,
    F_turn := fun_mk (st := s_turn) l_turn c_turn k_turn,
    b_turn := (fun_mk (st := s_turn) l_turn c_turn k_turn).binds (ps := ["triangle", "small"]) fun _ _ _ _ _ _ us hl => match us, hl with | [_, _], _ => rfl,
    g_turn := PySem.W.mg_of X G a_turn,
    a_put := f_put,
    d_put := _,
    F_put := fun_mk (st := s_put) l_put c_put k_put,
    b_put := (fun_mk (st := s_put) l_put c_put k_put).binds (ps := ["triangle", "row", "place", "letter"]) fun _ _ _ _ _ _ us hl => match us, hl with | [_, _, _, _], _ => rfl,
    g_put := PySem.W.mg_of X G a_put,
    a_told := f_told,
    d_told := _,
    F_told := fun_mk (st := s_told) l_told c_told k_told,
    b_told := (fun_mk (st := s_told) l_told c_told k_told).binds (ps := ["triangle"]) fun _ _ _ _ _ _ us hl => match us, hl with | [_], _ => rfl,
    g_told := PySem.W.mg_of X G a_told,
    a_walk := f_walk,
    d_walk := _,
    F_walk := fun_mk (st := s_walk) l_walk c_walk k_walk,
    b_walk := (fun_mk (st := s_walk) l_walk c_walk k_walk).binds (ps := ["triangle", "door"]) fun _ _ _ _ _ _ us hl => match us, hl with | [_, _], _ => rfl,
    g_walk := PySem.W.mg_of X G a_walk,
    a_walk_out := f_walk_out,
    d_walk_out := _,
    F_walk_out := fun_mk (st := s_walk_out) l_walk_out c_walk_out k_walk_out,
    b_walk_out := (fun_mk (st := s_walk_out) l_walk_out c_walk_out k_walk_out).binds (ps := ["triangle", "small"]) fun _ _ _ _ _ _ us hl => match us, hl with | [_, _], _ => rfl,
    g_walk_out := PySem.W.mg_of X G a_walk_out,
    a__law_triangle_asked := f__law_triangle_asked,
    d__law_triangle_asked := _,
    F__law_triangle_asked := fun_mk (st := s__law_triangle_asked) l__law_triangle_asked c__law_triangle_asked k__law_triangle_asked,
    b__law_triangle_asked := (fun_mk (st := s__law_triangle_asked) l__law_triangle_asked c__law_triangle_asked k__law_triangle_asked).binds (ps := ["_law_which", "_law_more"]) fun _ _ _ _ _ _ us hl => match us, hl with | [_, _], _ => rfl,
    g__law_triangle_asked := PySem.W.mg_of X G a__law_triangle_asked,
    a__law_small_asked := f__law_small_asked,
    d__law_small_asked := _,
    F__law_small_asked := fun_mk (st := s__law_small_asked) l__law_small_asked c__law_small_asked k__law_small_asked,
    b__law_small_asked := (fun_mk (st := s__law_small_asked) l__law_small_asked c__law_small_asked k__law_small_asked).binds (ps := ["_law_which", "_law_more"]) fun _ _ _ _ _ _ us hl => match us, hl with | [_, _], _ => rfl,
    g__law_small_asked := PySem.W.mg_of X G a__law_small_asked,
    a__law_others_asked := f__law_others_asked,
    d__law_others_asked := _,
    F__law_others_asked := fun_mk (st := s__law_others_asked) l__law_others_asked c__law_others_asked k__law_others_asked,
    b__law_others_asked := (fun_mk (st := s__law_others_asked) l__law_others_asked c__law_others_asked k__law_others_asked).binds (ps := ["_law_kind", "_law_which", "_law_more"]) fun _ _ _ _ _ _ us hl => match us, hl with | [_, _, _], _ => rfl,
    g__law_others_asked := PySem.W.mg_of X G a__law_others_asked,
    a__law_told := f__law_told,
    d__law_told := _,
    F__law_told := fun_mk (st := s__law_told) l__law_told c__law_told k__law_told,
    b__law_told := (fun_mk (st := s__law_told) l__law_told c__law_told k__law_told).binds (ps := ["_law_kind", "_law_which", "_law_more"]) fun _ _ _ _ _ _ us hl => match us, hl with | [_, _, _], _ => rfl,
    g__law_told := PySem.W.mg_of X G a__law_told,
    a_law := fa,
    d_law := _,
    F_law := fun_mk (st := s_law) l_law c_law k_law,
    b_law := (fun_mk (st := s_law) l_law c_law k_law).binds (ps := ["_law_script"]) fun _ _ _ _ _ _ us hl => match us, hl with | [_], _ => rfl,
    g_law := PySem.W.mg_of X G a_law,
    z_ValueError := PySem.W.mg_none_of X G z_ValueError,
    z_all := PySem.W.mg_none_of X G z_all,
    z_bool := PySem.W.mg_none_of X G z_bool,
    z_enumerate := PySem.W.mg_none_of X G z_enumerate,
    z_int := PySem.W.mg_none_of X G z_int,
    z_isinstance := PySem.W.mg_none_of X G z_isinstance,
    z_len := PySem.W.mg_none_of X G z_len,
    z_list := PySem.W.mg_none_of X G z_list,
    z_range := PySem.W.mg_none_of X G z_range,
    z_str := PySem.W.mg_none_of X G z_str,
    z_tuple := PySem.W.mg_none_of X G z_tuple,
    z_zip := PySem.W.mg_none_of X G z_zip,
    a_DOOR_STEPS := c_DOOR_STEPS,
    g_DOOR_STEPS := PySem.W.mg_of X G a_DOOR_STEPS,
    k_DOOR_STEPS := fun H => .inr ⟨_, _, _, l_DOOR_STEPS, rfl, rfl, by show 2 ≤ sizeLine; decide, .cons ⟨_, rfl⟩ (.cons ⟨_, rfl⟩ (.nil))⟩,
    a_LEFT_ROUNDS := c_LEFT_ROUNDS,
    g_LEFT_ROUNDS := PySem.W.mg_of X G a_LEFT_ROUNDS,
    k_LEFT_ROUNDS := fun H => .inr ⟨_, _, _, l_LEFT_ROUNDS, rfl, rfl, by show 3 ≤ sizeLine; decide, .cons ⟨_, rfl⟩ (.cons ⟨_, rfl⟩ (.cons ⟨_, rfl⟩ (.nil)))⟩,
    a_LETTERS := c_LETTERS,
    g_LETTERS := PySem.W.mg_of X G a_LETTERS,
    k_LETTERS := fun H => .inr ⟨_, _, _, l_LETTERS, rfl, rfl, by show 3 ≤ sizeLine; decide, .cons ⟨_, rfl⟩ (.cons ⟨_, rfl⟩ (.cons ⟨_, rfl⟩ (.nil)))⟩,
    a_RIGHT_ROUNDS := c_RIGHT_ROUNDS,
    g_RIGHT_ROUNDS := PySem.W.mg_of X G a_RIGHT_ROUNDS,
    k_RIGHT_ROUNDS := fun H => .inr ⟨_, _, _, l_RIGHT_ROUNDS, rfl, rfl, by show 3 ≤ sizeLine; decide, .cons ⟨_, rfl⟩ (.cons ⟨_, rfl⟩ (.cons ⟨_, rfl⟩ (.nil)))⟩,
    x_BadTriangle := ⟨ex_BadTriangle, kp_BadTriangle, sb_BadTriangle, ty_BadTriangle, wk_BadTriangle, ⟨hg_BadTriangle, hk_BadTriangle, sb_BadTriangle, hd_BadTriangle, ha_BadTriangle, gs, tks, hm_BadTriangle⟩, ve_BadTriangle⟩,
    x_BadSmall := ⟨ex_BadSmall, kp_BadSmall, sb_BadSmall, ty_BadSmall, wk_BadSmall, ⟨hg_BadSmall, hk_BadSmall, sb_BadSmall, hd_BadSmall, ha_BadSmall, gs, tks, hm_BadSmall⟩, ve_BadSmall⟩,
    x_BadDoor := ⟨ex_BadDoor, kp_BadDoor, sb_BadDoor, ty_BadDoor, wk_BadDoor, ⟨hg_BadDoor, hk_BadDoor, sb_BadDoor, hd_BadDoor, ha_BadDoor, gs, tks, hm_BadDoor⟩, ve_BadDoor⟩,
    x_BadSpot := ⟨ex_BadSpot, kp_BadSpot, sb_BadSpot, ty_BadSpot, wk_BadSpot, ⟨hg_BadSpot, hk_BadSpot, sb_BadSpot, hd_BadSpot, ha_BadSpot, gs, tks, hm_BadSpot⟩, ve_BadSpot⟩,
    w_WalkError := ⟨wsb, wty, whd⟩,
    i_BadTriangle_BadTriangle := i_BadTriangle_BadTriangle,
    i_BadTriangle_BadSmall := i_BadTriangle_BadSmall,
    i_BadTriangle_BadDoor := i_BadTriangle_BadDoor,
    i_BadTriangle_BadSpot := i_BadTriangle_BadSpot,
    i_BadSmall_BadTriangle := i_BadSmall_BadTriangle,
    i_BadSmall_BadSmall := i_BadSmall_BadSmall,
    i_BadSmall_BadDoor := i_BadSmall_BadDoor,
    i_BadSmall_BadSpot := i_BadSmall_BadSpot,
    i_BadDoor_BadTriangle := i_BadDoor_BadTriangle,
    i_BadDoor_BadSmall := i_BadDoor_BadSmall,
    i_BadDoor_BadDoor := i_BadDoor_BadDoor,
    i_BadDoor_BadSpot := i_BadDoor_BadSpot,
    i_BadSpot_BadTriangle := i_BadSpot_BadTriangle,
    i_BadSpot_BadSmall := i_BadSpot_BadSmall,
    i_BadSpot_BadDoor := i_BadSpot_BadDoor,
    i_BadSpot_BadSpot := i_BadSpot_BadSpot
  } : Tx K mg)⟩
end Dt
open PySem PySem.W PyProof.Rows
set_option maxHeartbeats 0 in
theorem PySem.Challenge.cw_doorwalk_k06_refused_holds : PySem.Challenge.rw_doorwalk_k06_refused.Holds := by
  w_on; o_law; k_head; (case hw => w_witness2)
  k_fill
  refine L2.walk_of (l := PySem.Challenge.rw_doorwalk_k06_refused) (n := 63) (k := 8) (x := "_law_script") (CX := fun _ => L2.CX0) (sp := fun w => Dt.SpLaw _) rfl (by decide) rfl ⟨rfl, by decide, by decide⟩ (fun w h Y => PySem.W.kIn_of Y) ?F (fun _ _ a ns hl _ hS => ⟨a, ns, rfl, hS, hl, fun _ => rfl⟩) (fun _ _ _ _ _ h => h)
  case F =>
    intro w mg fa h KX G hmg
    refine' Dt.all_mk KX G hmg ?a_WalkError ?a_BadTriangle ?a_BadSmall ?a_BadDoor ?a_BadSpot ?a_is_number ?l_is_number ?c_is_number ?k_is_number ?a_is_letter ?l_is_letter ?c_is_letter ?k_is_letter ?a_is_row ?l_is_row ?c_is_row ?k_is_row ?a_is_triangle ?l_is_triangle ?c_is_triangle ?k_is_triangle ?a_is_spot ?l_is_spot ?c_is_spot ?k_is_spot ?a_is_small ?l_is_small ?c_is_small ?k_is_small ?a_check_triangle ?l_check_triangle ?c_check_triangle ?k_check_triangle ?a_check_small ?l_check_small ?c_check_small ?k_check_small ?a_corners ?l_corners ?c_corners ?k_corners ?a_letters_at ?l_letters_at ?c_letters_at ?k_letters_at ?a_turn_of ?l_turn_of ?c_turn_of ?k_turn_of ?a_side_spots ?l_side_spots ?c_side_spots ?k_side_spots ?a_side_steps ?l_side_steps ?c_side_steps ?k_side_steps ?a_is_door ?l_is_door ?c_is_door ?k_is_door ?a_fulls ?l_fulls ?c_fulls ?k_fulls ?a_around ?l_around ?c_around ?k_around ?a_doors ?l_doors ?c_doors ?k_doors ?a_turn ?l_turn ?c_turn ?k_turn ?a_put ?l_put ?c_put ?k_put ?a_told ?l_told ?c_told ?k_told ?a_walk ?l_walk ?c_walk ?k_walk ?a_walk_out ?l_walk_out ?c_walk_out ?k_walk_out ?a__law_triangle_asked ?l__law_triangle_asked ?c__law_triangle_asked ?k__law_triangle_asked ?a__law_small_asked ?l__law_small_asked ?c__law_small_asked ?k__law_small_asked ?a__law_others_asked ?l__law_others_asked ?c__law_others_asked ?k__law_others_asked ?a__law_told ?l__law_told ?c__law_told ?k__law_told ?a_law ?l_law ?c_law ?k_law ?z_ValueError ?z_all ?z_bool ?z_enumerate ?z_int ?z_isinstance ?z_len ?z_list ?z_range ?z_str ?z_tuple ?z_zip ?a_DOOR_STEPS ?l_DOOR_STEPS ?a_LEFT_ROUNDS ?l_LEFT_ROUNDS ?a_LETTERS ?l_LETTERS ?a_RIGHT_ROUNDS ?l_RIGHT_ROUNDS ?ex_BadTriangle ?kp_BadTriangle ?sb_BadTriangle ?ty_BadTriangle ?wk_BadTriangle ?ve_BadTriangle ?hg_BadTriangle ?hk_BadTriangle ?hd_BadTriangle ?ha_BadTriangle ?hm_BadTriangle ?ex_BadSmall ?kp_BadSmall ?sb_BadSmall ?ty_BadSmall ?wk_BadSmall ?ve_BadSmall ?hg_BadSmall ?hk_BadSmall ?hd_BadSmall ?ha_BadSmall ?hm_BadSmall ?ex_BadDoor ?kp_BadDoor ?sb_BadDoor ?ty_BadDoor ?wk_BadDoor ?ve_BadDoor ?hg_BadDoor ?hk_BadDoor ?hd_BadDoor ?ha_BadDoor ?hm_BadDoor ?ex_BadSpot ?kp_BadSpot ?sb_BadSpot ?ty_BadSpot ?wk_BadSpot ?ve_BadSpot ?hg_BadSpot ?hk_BadSpot ?hd_BadSpot ?ha_BadSpot ?hm_BadSpot ?wsb ?wty ?whd ?gs ?tks ?i_BadTriangle_BadTriangle ?i_BadTriangle_BadSmall ?i_BadTriangle_BadDoor ?i_BadTriangle_BadSpot ?i_BadSmall_BadTriangle ?i_BadSmall_BadSmall ?i_BadSmall_BadDoor ?i_BadSmall_BadSpot ?i_BadDoor_BadTriangle ?i_BadDoor_BadSmall ?i_BadDoor_BadDoor ?i_BadDoor_BadSpot ?i_BadSpot_BadTriangle ?i_BadSpot_BadSmall ?i_BadSpot_BadDoor ?i_BadSpot_BadSpot
    (case a_WalkError => k_is)
    (case a_BadTriangle => k_is)
    (case a_BadSmall => k_is)
    (case a_BadDoor => k_is)
    (case a_BadSpot => k_is)
    (case a_is_number => k_is)
    (case l_is_number => k_is)
    (case c_is_number => k_is)
    (case k_is_number => k_is)
    (case a_is_letter => k_is)
    (case l_is_letter => k_is)
    (case c_is_letter => k_is)
    (case k_is_letter => k_is)
    (case a_is_row => k_is)
    (case l_is_row => k_is)
    (case c_is_row => k_is)
    (case k_is_row => k_is)
    (case a_is_triangle => k_is)
    (case l_is_triangle => k_is)
    (case c_is_triangle => k_is)
    (case k_is_triangle => k_is)
    (case a_is_spot => k_is)
    (case l_is_spot => k_is)
    (case c_is_spot => k_is)
    (case k_is_spot => k_is)
    (case a_is_small => k_is)
    (case l_is_small => k_is)
    (case c_is_small => k_is)
    (case k_is_small => k_is)
    (case a_check_triangle => k_is)
    (case l_check_triangle => k_is)
    (case c_check_triangle => k_is)
    (case k_check_triangle => k_is)
    (case a_check_small => k_is)
    (case l_check_small => k_is)
    (case c_check_small => k_is)
    (case k_check_small => k_is)
    (case a_corners => k_is)
    (case l_corners => k_is)
    (case c_corners => k_is)
    (case k_corners => k_is)
    (case a_letters_at => k_is)
    (case l_letters_at => k_is)
    (case c_letters_at => k_is)
    (case k_letters_at => k_is)
    (case a_turn_of => k_is)
    (case l_turn_of => k_is)
    (case c_turn_of => k_is)
    (case k_turn_of => k_is)
    (case a_side_spots => k_is)
    (case l_side_spots => k_is)
    (case c_side_spots => k_is)
    (case k_side_spots => k_is)
    (case a_side_steps => k_is)
    (case l_side_steps => k_is)
    (case c_side_steps => k_is)
    (case k_side_steps => k_is)
    (case a_is_door => k_is)
    (case l_is_door => k_is)
    (case c_is_door => k_is)
    (case k_is_door => k_is)
    (case a_fulls => k_is)
    (case l_fulls => k_is)
    (case c_fulls => k_is)
    (case k_fulls => k_is)
    (case a_around => k_is)
    (case l_around => k_is)
    (case c_around => k_is)
    (case k_around => k_is)
    (case a_doors => k_is)
    (case l_doors => k_is)
    (case c_doors => k_is)
    (case k_doors => k_is)
    (case a_turn => k_is)
    (case l_turn => k_is)
    (case c_turn => k_is)
    (case k_turn => k_is)
    (case a_put => k_is)
    (case l_put => k_is)
    (case c_put => k_is)
    (case k_put => k_is)
    (case a_told => k_is)
    (case l_told => k_is)
    (case c_told => k_is)
    (case k_told => k_is)
    (case a_walk => k_is)
    (case l_walk => k_is)
    (case c_walk => k_is)
    (case k_walk => k_is)
    (case a_walk_out => k_is)
    (case l_walk_out => k_is)
    (case c_walk_out => k_is)
    (case k_walk_out => k_is)
    (case a__law_triangle_asked => k_is)
    (case l__law_triangle_asked => k_is)
    (case c__law_triangle_asked => k_is)
    (case k__law_triangle_asked => k_is)
    (case a__law_small_asked => k_is)
    (case l__law_small_asked => k_is)
    (case c__law_small_asked => k_is)
    (case k__law_small_asked => k_is)
    (case a__law_others_asked => k_is)
    (case l__law_others_asked => k_is)
    (case c__law_others_asked => k_is)
    (case k__law_others_asked => k_is)
    (case a__law_told => k_is)
    (case l__law_told => k_is)
    (case c__law_told => k_is)
    (case k__law_told => k_is)
    (case a_law => k_is)
    (case l_law => k_is)
    (case c_law => k_is)
    (case k_law => k_is)
    (case z_ValueError => k_is)
    (case z_all => k_is)
    (case z_bool => k_is)
    (case z_enumerate => k_is)
    (case z_int => k_is)
    (case z_isinstance => k_is)
    (case z_len => k_is)
    (case z_list => k_is)
    (case z_range => k_is)
    (case z_str => k_is)
    (case z_tuple => k_is)
    (case z_zip => k_is)
    (case a_DOOR_STEPS => k_is)
    (case l_DOOR_STEPS => k_is)
    (case a_LEFT_ROUNDS => k_is)
    (case l_LEFT_ROUNDS => k_is)
    (case a_LETTERS => k_is)
    (case l_LETTERS => k_is)
    (case a_RIGHT_ROUNDS => k_is)
    (case l_RIGHT_ROUNDS => k_is)
    (case ex_BadTriangle => first | k_exc | k_is)
    (case kp_BadTriangle => k_is)
    (case sb_BadTriangle => k_is)
    (case ty_BadTriangle => k_is)
    (case wk_BadTriangle => k_is)
    (case ve_BadTriangle => first | rfl | k_is)
    (case hg_BadTriangle => k_is)
    (case hk_BadTriangle => k_is)
    (case hd_BadTriangle => k_is)
    (case ha_BadTriangle => k_is)
    (case hm_BadTriangle => k_is)
    (case ex_BadSmall => first | k_exc | k_is)
    (case kp_BadSmall => k_is)
    (case sb_BadSmall => k_is)
    (case ty_BadSmall => k_is)
    (case wk_BadSmall => k_is)
    (case ve_BadSmall => first | rfl | k_is)
    (case hg_BadSmall => k_is)
    (case hk_BadSmall => k_is)
    (case hd_BadSmall => k_is)
    (case ha_BadSmall => k_is)
    (case hm_BadSmall => k_is)
    (case ex_BadDoor => first | k_exc | k_is)
    (case kp_BadDoor => k_is)
    (case sb_BadDoor => k_is)
    (case ty_BadDoor => k_is)
    (case wk_BadDoor => k_is)
    (case ve_BadDoor => first | rfl | k_is)
    (case hg_BadDoor => k_is)
    (case hk_BadDoor => k_is)
    (case hd_BadDoor => k_is)
    (case ha_BadDoor => k_is)
    (case hm_BadDoor => k_is)
    (case ex_BadSpot => first | k_exc | k_is)
    (case kp_BadSpot => k_is)
    (case sb_BadSpot => k_is)
    (case ty_BadSpot => k_is)
    (case wk_BadSpot => k_is)
    (case ve_BadSpot => first | rfl | k_is)
    (case hg_BadSpot => k_is)
    (case hk_BadSpot => k_is)
    (case hd_BadSpot => k_is)
    (case ha_BadSpot => k_is)
    (case hm_BadSpot => k_is)
    (case wsb => k_is)
    (case wty => k_is)
    (case whd => k_is)
    (case gs => k_is)
    (case tks => k_is)
    (case i_BadTriangle_BadTriangle => first | rfl | k_is)
    (case i_BadTriangle_BadSmall => first | rfl | k_is)
    (case i_BadTriangle_BadDoor => first | rfl | k_is)
    (case i_BadTriangle_BadSpot => first | rfl | k_is)
    (case i_BadSmall_BadTriangle => first | rfl | k_is)
    (case i_BadSmall_BadSmall => first | rfl | k_is)
    (case i_BadSmall_BadDoor => first | rfl | k_is)
    (case i_BadSmall_BadSpot => first | rfl | k_is)
    (case i_BadDoor_BadTriangle => first | rfl | k_is)
    (case i_BadDoor_BadSmall => first | rfl | k_is)
    (case i_BadDoor_BadDoor => first | rfl | k_is)
    (case i_BadDoor_BadSpot => first | rfl | k_is)
    (case i_BadSpot_BadTriangle => first | rfl | k_is)
    (case i_BadSpot_BadSmall => first | rfl | k_is)
    (case i_BadSpot_BadDoor => first | rfl | k_is)
    (case i_BadSpot_BadSpot => first | rfl | k_is)

