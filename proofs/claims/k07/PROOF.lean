import PyProof.Rows.All
import Wide.All
import OpenK.AllK
import Wide.FinOn
import HandS.ForMost
import HandS.Evl
import HandS.Deep
import HandS.IsInst
import HandS.Wide
import HandS.NoneIn
import HandS.TupSets
import HandS.TupAny
import HandS.TupLe
import HandS.Defaults
import HandS.Conv
import HandS.Strs
import KE.KDictKeyed
import HandS.Zip
import HandS.Text
import HandS.Exc
import HandS.ExcOwn
import HandS.ExcIs
import HandS.ExcValue
import HandS.WordsExc
import PySem.Challenge.RW_thirtycubes_k07_paints_looked_at
set_option Elab.async false
set_option linter.all false
set_option maxRecDepth 100000
set_option maxHeartbeats 4000000
/-! A layer of data over the hand layer: what a piece of code does is told of trees of data; the heap is kept in the lemmas. -/
namespace Dl
open PySem L2 Evl

/-- what a name or a place on the way holds: nothing told, data, the very value, or another thing of the data's heap -/
inductive En where
  | no | dat (d : PyData) | val (v : V) | th (k : List Int) (φ : Hp → V → Prop)

def Ok (K : PySem.W.Frag) (G : Hp) (v : V) : En → Prop
  | .no => True
  | .dat d => Dp K G v d
  | .val u => v = u
  | .th _ φ => ∃ G0, Ex G0 G ∧ φ G0 v

mutual
theorem dpMono {K : PySem.W.Frag} {G G' : Hp} (e : Ex G G') : ∀ {v : V} {d : PyData}, Dp K G v d → Dp K G' v d
  | _, _, .non => .non
  | _, _, .bl b => .bl b
  | _, _, .int i => .int i
  | _, _, .str x => .str x
  | _, _, .lst s a => .lst (ex_l e s) (dpaMono e a)
  | _, _, .tup s a => .tup (ex_t e s) (dpaMono e a)
theorem dpaMono {K : PySem.W.Frag} {G G' : Hp} (e : Ex G G') : ∀ {vs : List V} {ds : List PyData}, DpAll K G vs ds → DpAll K G' vs ds
  | _, _, .nil => .nil
  | _, _, .cons h t => .cons (dpMono e h) (dpaMono e t)
end
theorem Ok.mono {K : PySem.W.Frag} {G G' : Hp} {v : V} {x : En} (e : Ex G G') (h : Ok K G v x) : Ok K G' v x := by
  cases x with
  | no => trivial
  | dat d => exact dpMono e h
  | val u => exact h
  | th k φ =>
    obtain ⟨G0, e0, q⟩ := h
    exact ⟨G0, e0.trans e, q⟩

abbrev Vs (K : PySem.W.Frag) (G : Hp) : List V → List En → Prop := Paired (Ok K G)
theorem Vs.mono {K : PySem.W.Frag} {G G' : Hp} (e : Ex G G') : ∀ {vs : List V} {es : List En}, Vs K G vs es → Vs K G' vs es
  | _, _, .nil => .nil
  | _, _, .cons h t => .cons (h.mono e) (Vs.mono e t)
theorem Vs.len {K : PySem.W.Frag} {G : Hp} : ∀ {vs : List V} {es : List En}, Vs K G vs es → vs.length = es.length
  | _, _, .nil => rfl
  | _, _, .cons _ t => congrArg Nat.succ (Vs.len t)
theorem Vs.dpa {K : PySem.W.Frag} {G : Hp} : ∀ {vs : List V} {ds : List PyData}, Vs K G vs (ds.map .dat) → DpAll K G vs ds
  | _, [], h => by cases h; exact .nil
  | _, d :: ds, h => by
    cases h with
    | cons a b => exact .cons a (Vs.dpa b)
theorem Vs.of_dpa {K : PySem.W.Frag} {G : Hp} : ∀ {vs : List V} {ds : List PyData}, DpAll K G vs ds → Vs K G vs (ds.map .dat)
  | _, _, .nil => .nil
  | _, _, .cons a b => .cons a (Vs.of_dpa b)
theorem Vs.get {K : PySem.W.Frag} {G : Hp} : ∀ {vs : List V} {es : List En} {i : Nat} {x : En}, Vs K G vs es → es[i]? = some x → ∃ v, vs[i]? = some v ∧ Ok K G v x
  | _, _, 0, _, .cons h _, e => by
    simp only [List.getElem?_cons_zero, Option.some.injEq] at e
    subst e
    exact ⟨_, rfl, h⟩
  | _, _, i + 1, _, .cons _ t, e => by
    simp only [List.getElem?_cons_succ] at e
    obtain ⟨v, a, b⟩ := Vs.get t e
    exact ⟨v, by simpa using a, b⟩
theorem Vs.getV {K : PySem.W.Frag} {G : Hp} : ∀ {vs : List V} {es : List En} {i : Nat} {v : V}, Vs K G vs es → vs[i]? = some v → ∃ x, es[i]? = some x ∧ Ok K G v x
  | _, _, 0, _, .cons h _, e => by
    simp only [List.getElem?_cons_zero, Option.some.injEq] at e
    subst e
    exact ⟨_, rfl, h⟩
  | _, _, i + 1, _, .cons _ t, e => by
    simp only [List.getElem?_cons_succ] at e
    obtain ⟨v, a, b⟩ := Vs.getV t e
    exact ⟨v, by simpa using a, b⟩
theorem Vs.app {K : PySem.W.Frag} {G : Hp} {v : V} {x : En} : ∀ {vs : List V} {es : List En}, Vs K G vs es → Ok K G v x → Vs K G (vs ++ [v]) (es ++ [x])
  | _, _, .nil, h => .cons h .nil
  | _, _, .cons a t, h => .cons a (Vs.app t h)
theorem Vs.cat {K : PySem.W.Frag} {G : Hp} : ∀ {vs ws : List V} {es fs : List En}, Vs K G vs es → Vs K G ws fs → Vs K G (vs ++ ws) (es ++ fs)
  | _, _, _, _, .nil, h => h
  | _, _, _, _, .cons a t, h => .cons a (Vs.cat t h)
theorem Vs.setAt {K : PySem.W.Frag} {G : Hp} {v : V} {x : En} : ∀ {vs : List V} {es : List En} (i : Nat), Vs K G vs es → Ok K G v x → Vs K G (vs.set i v) (es.set i x)
  | _, _, _, .nil, _ => .nil
  | _, _, 0, .cons _ t, h => .cons h t
  | _, _, i + 1, .cons a t, h => .cons a (Vs.setAt i t h)
theorem Vs.dropN {K : PySem.W.Frag} {G : Hp} : ∀ {vs : List V} {es : List En} (i : Nat), Vs K G vs es → Vs K G (vs.drop i) (es.drop i)
  | _, _, 0, h => h
  | _, _, _ + 1, .nil => .nil
  | _, _, i + 1, .cons _ t => Vs.dropN i t
theorem Vs.takeN {K : PySem.W.Frag} {G : Hp} : ∀ {vs : List V} {es : List En} (i : Nat), Vs K G vs es → Vs K G (vs.take i) (es.take i)
  | _, _, 0, _ => .nil
  | _, _, _ + 1, .nil => .nil
  | _, _, i + 1, .cons a t => .cons a (Vs.takeN i t)

/-- the frame's names -/
def SOk (K : PySem.W.Frag) (G : Hp) : Option V → En → Prop
  | _, .no => True
  | some v, x => Ok K G v x
  | none, _ => False
abbrev Slots (K : PySem.W.Frag) (G : Hp) : St → List En → Prop := Paired (SOk K G)
theorem SOk.mono {K : PySem.W.Frag} {G G' : Hp} {v : Option V} {x : En} (e : Ex G G') (h : SOk K G v x) : SOk K G' v x := by
  cases x with
  | no => cases v <;> trivial
  | dat d => cases v with
    | none => exact h
    | some v => exact dpMono e h
  | val u => cases v with
    | none => exact h
    | some v => exact h
  | th k φ => cases v with
    | none => exact h
    | some v =>
      obtain ⟨G0, e0, q⟩ := h
      exact ⟨G0, e0.trans e, q⟩
theorem SOk.of {K : PySem.W.Frag} {G : Hp} {v : V} {x : En} (h : Ok K G v x) : SOk K G (some v) x := by
  cases x with
  | no => trivial
  | dat d => exact h
  | val u => exact h
  | th k φ => exact h
theorem Slots.mono {K : PySem.W.Frag} {G G' : Hp} (e : Ex G G') : ∀ {vs : St} {es : List En}, Slots K G vs es → Slots K G' vs es
  | _, _, .nil => .nil
  | _, _, .cons h t => .cons (SOk.mono e h) (Slots.mono e t)
/-- told things only: a name of which nothing is told can't be read -/
def En.told : En → Bool
  | .no => false
  | _ => true
theorem Slots.get {K : PySem.W.Frag} {G : Hp} : ∀ {vs : St} {es : List En} {i : Nat} {x : En}, Slots K G vs es → es[i]? = some x → x.told = true → ∃ v, vs[i]? = some (some v) ∧ Ok K G v x
  | _, _, 0, y, .cons (a := a) (b := x) h _, e, t => by
    simp only [List.getElem?_cons_zero, Option.some.injEq] at e
    subst e
    cases x with
    | no => cases t
    | dat d => cases a with
      | none => exact h.elim
      | some v => exact ⟨v, rfl, h⟩
    | val u => cases a with
      | none => exact h.elim
      | some v => exact ⟨v, rfl, h⟩
    | th k φ => cases a with
      | none => exact h.elim
      | some v => exact ⟨v, rfl, h⟩
  | _, _, i + 1, _, .cons _ t, e, tt => by
    simp only [List.getElem?_cons_succ] at e
    obtain ⟨v, a, b⟩ := Slots.get t e tt
    exact ⟨v, by simpa using a, b⟩
theorem Slots.set {K : PySem.W.Frag} {G : Hp} {v : Option V} {x : En} (h : SOk K G v x) : ∀ {vs : St} {es : List En} (i : Nat), Slots K G vs es → Slots K G (vs.set i v) (es.set i x)
  | _, _, _, .nil => .nil
  | _, _, 0, .cons _ t => .cons h t
  | _, _, i + 1, .cons q t => .cons q (Slots.set h i t)
def wipeE (δ : List En) : List Nat → List En
  | [] => δ
  | v :: vs => (wipeE δ vs).set v .no
theorem Slots.wipe {K : PySem.W.Frag} {G : Hp} {σ : St} {δ : List En} (h : Slots K G σ δ) : ∀ vs : List Nat, Slots K G (L2.wipe σ vs) (wipeE δ vs)
  | [] => h
  | v :: vs => by
    unfold L2.wipe wipeE
    exact Slots.set (K := K) (G := G) (v := none) (x := .no) trivial v (Slots.wipe h vs)
theorem Slots.start {K : PySem.W.Frag} {G : Hp} {vs : List V} {es : List En} (h : Vs K G vs es) (n : Nat) : Slots K G (vs.map some ++ List.replicate n none) (es ++ List.replicate n .no) := by
  induction h with
  | nil =>
    show Slots K G (List.replicate n none) (List.replicate n .no)
    induction n with
    | zero => exact .nil
    | succ n ih => exact .cons trivial ih
  | cons a t ih => exact .cons (SOk.of a) ih

/-! ### the state: how many draws are left, the lists that are changed -/
structure Sx where
  n : Nat
  own : List (Addr × List En)
/-- what stays through a piece of code: the purse (if there is one), the heap and its data at the entry -/
structure Fx where
  pu : Option (Addr × Addr)
  H0 : Hp
  G0 : Hp
/-- bounds of a cell -/
def CellOk (i : Int) : Prop := i.natAbs < 2 ^ 4000
structure PurseAt (H : Hp) (p c : Addr) (n : Nat) : Prop where
  ex : ∃ (cs : List Int) (t : Nat), H p = some (.lst [.ref c, .int (t : Int)]) ∧ H c = some (.lst (cs.map V.int)) ∧ 0 < cs.length ∧ cs.length ≤ 63 ∧ (∀ i ∈ cs, CellOk i) ∧ t + n ≤ 2 ^ 60
def isPu (f : Fx) (b : Addr) : Prop := ∃ p c, f.pu = some (p, c) ∧ (b = p ∨ b = c)
/-- every tuple of the data is told with its object, which has no dict of its own -/
def TF (G : Hp) : Prop := ∀ b, (∀ xs, G b ≠ some (.tup xs)) ∧ ∀ o xs, G b = some (.frz o (.tup xs)) → o.dict = none
def okO : HO → Prop
  | .tup _ => False
  | .frz o (.tup _) => o.dict = none
  | _ => True
theorem TF.upd {G : Hp} {q : Addr} {o : HO} (t : TF G) (h : okO o) : TF (L2.upd G q o) := fun b => by
  by_cases hb : b = q
  · rw [hb, upd_same]
    refine ⟨fun xs e => ?_, fun ob xs e => ?_⟩
    · cases e
      exact h
    · cases e
      exact h
  · rw [upd_ne hb]
    exact t b
structure J (K : PySem.W.Frag) (f : Fx) (s : Sx) (G H : Hp) : Prop where
  ex : Ex G H
  own : ∀ D es, (D, es) ∈ s.own → G D = none ∧ f.H0 D = none ∧ ¬ isPu f D ∧ ∃ xs, H D = some (.lst xs) ∧ Vs K G xs es
  nd : (s.own.map (·.1)).Nodup
  pu : ∀ p c, f.pu = some (p, c) → G p = none ∧ G c = none ∧ f.H0 p ≠ none ∧ f.H0 c ≠ none ∧ PurseAt H p c s.n
  fr : ∀ b o, ¬ isPu f b → f.H0 b = some o → H b = some o
  g0 : Ex f.G0 G
  fs : ∀ b, G b ≠ none → f.G0 b = none → f.H0 b = none
  tf : TF G

section
variable {K : PySem.W.Frag} {f : Fx} {s : Sx} {G H G2 H2 : Hp}
/-- a piece that leaves all that was, and gives data in what was there and what is new -/
theorem J.pure (j : J K f s G H) (e : Ex G G2) (e2 : Ex G2 H2) (e3 : Ex H H2) (fr : ∀ b, G2 b ≠ none → G b = none → H b = none) (t2 : TF G2) : J K f s G2 H2 where
  tf := t2
  ex := e2
  own := fun D es m => by
    obtain ⟨a, b, c, xs, d, x⟩ := j.own D es m
    refine ⟨?_, b, c, xs, e3 _ _ d, x.mono e⟩
    cases q : G2 D with
    | none => rfl
    | some o =>
      have := fr D (by rw [q]; simp) a
      rw [d] at this
      cases this
  nd := j.nd
  pu := fun p c h => by
    obtain ⟨a, b, hp, hc, ⟨cs, t, x, y, z⟩⟩ := j.pu p c h
    refine ⟨?_, ?_, hp, hc, ⟨cs, t, e3 _ _ x, e3 _ _ y, z⟩⟩
    · cases q : G2 p with
      | none => rfl
      | some o =>
        have := fr p (by rw [q]; simp) a
        rw [x] at this
        cases this
    · cases q : G2 c with
      | none => rfl
      | some o =>
        have := fr c (by rw [q]; simp) b
        rw [y] at this
        cases this
  fr := fun b o h1 h2 => e3 _ _ (j.fr b o h1 h2)
  g0 := j.g0.trans e
  fs := fun b h1 h2 => by
    cases q : G b with
    | some o => exact j.fs b (by rw [q]; simp) h2
    | none =>
      have h := fr b h1 q
      cases r : f.H0 b with
      | none => rfl
      | some o =>
        by_cases hp : isPu f b
        · obtain ⟨p, c, e1, e2⟩ := hp
          obtain ⟨_, _, _, _, ⟨cs, t, x, y, _⟩⟩ := j.pu p c e1
          rcases e2 with e2 | e2
          · rw [e2] at h; rw [x] at h; cases h
          · rw [e2] at h; rw [y] at h; cases h
        · have := j.fr b o hp r
          rw [h] at this; cases this
theorem J.alloc (j : J K f s G H) {q : Addr} (h : H q = none) (o : HO) (ho : okO o) : J K f s (upd G q o) (upd H q o) := by
  have hg : G q = none := fresh_back j.ex h
  refine j.pure (Ex.new hg) (fun b x e => ?_) (Ex.new h) (fun b h1 h2 => ?_) (j.tf.upd ho)
  · by_cases hb : b = q
    · subst hb
      rw [upd_same] at e ⊢
      exact e
    · rw [upd_ne hb] at e ⊢
      exact j.ex _ _ e
  · by_cases hb : b = q
    · rw [hb]; exact h
    · rw [upd_ne hb] at h1
      exact absurd h2 h1
/-- a new list that will be changed -/
theorem J.ownNew (j : J K f s G H) {q : Addr} {xs : List V} {es : List En} (h : H q = none) (v : Vs K G xs es) : J K f ⟨s.n, (q, es) :: s.own⟩ G (upd H q (.lst xs)) := by
  have hg : G q = none := fresh_back j.ex h
  have e3 : Ex H (upd H q (.lst xs)) := Ex.new h
  have nq : ∀ b o, H b = some o → b ≠ q := fun b o e => ne_of_none e h
  refine ⟨j.ex.trans e3, fun D fs m => ?_, ?_, fun p c e => ?_, fun b o h1 h2 => e3 _ _ (j.fr b o h1 h2), j.g0, j.fs, j.tf⟩
  · rcases List.mem_cons.mp m with e | m
    · cases e
      refine ⟨hg, ?_, ?_, xs, upd_same, v⟩
      · cases r : f.H0 q with
        | none => rfl
        | some o =>
          by_cases hp : isPu f q
          · obtain ⟨p, c, e1, e2⟩ := hp
            obtain ⟨_, _, _, _, ⟨cs, t, x, y, _⟩⟩ := j.pu p c e1
            rcases e2 with e2 | e2
            · rw [e2] at h; rw [x] at h; cases h
            · rw [e2] at h; rw [y] at h; cases h
          · have := j.fr q o hp r
            rw [h] at this; cases this
      · rintro ⟨p, c, e1, e2⟩
        obtain ⟨_, _, _, _, ⟨cs, t, x, y, _⟩⟩ := j.pu p c e1
        rcases e2 with e2 | e2
        · rw [e2] at h; rw [x] at h; cases h
        · rw [e2] at h; rw [y] at h; cases h
    · obtain ⟨a, b, c, ys, d, x⟩ := j.own D fs m
      exact ⟨a, b, c, ys, e3 _ _ d, x⟩
  · refine List.nodup_cons.mpr ⟨fun m => ?_, j.nd⟩
    obtain ⟨⟨D, fs⟩, m1, e1⟩ := List.mem_map.mp m
    obtain ⟨_, _, _, ys, d, _⟩ := j.own D fs m1
    have e1' : D = q := e1
    rw [e1', h] at d
    cases d
  · obtain ⟨a, b, hp, hc, ⟨cs, t, x, y, z⟩⟩ := j.pu p c e
    exact ⟨a, b, hp, hc, ⟨cs, t, e3 _ _ x, e3 _ _ y, z⟩⟩
/-- the list on top is changed -/
theorem J.ownSet {n : Nat} {q : Addr} {es es' : List En} {r : List (Addr × List En)} (j : J K f ⟨n, (q, es) :: r⟩ G H) {xs : List V} (v : Vs K G xs es') : J K f ⟨n, (q, es') :: r⟩ G (upd H q (.lst xs)) := by
  obtain ⟨a0, b0, c0, ys, d0, x0⟩ := j.own q es (List.mem_cons_self ..)
  have nd := List.nodup_cons.mp (show (q :: r.map (·.1)).Nodup from j.nd)
  refine ⟨fun b o e => ?_, fun D fs m => ?_, j.nd, fun p c e => ?_, fun b o h1 h2 => ?_, j.g0, j.fs, j.tf⟩
  · have hb : b ≠ q := ne_of_none e a0
    rw [upd_ne hb]
    exact j.ex _ _ e
  · rcases List.mem_cons.mp m with e | m
    · cases e
      exact ⟨a0, b0, c0, xs, upd_same, v⟩
    · obtain ⟨a, b, c, zs, d, x⟩ := j.own D fs (List.mem_cons_of_mem _ m)
      have hb : D ≠ q := fun e => nd.1 (by rw [← e]; exact List.mem_map.mpr ⟨_, m, rfl⟩)
      exact ⟨a, b, c, zs, by rw [upd_ne hb]; exact d, x⟩
  · obtain ⟨a, b, hp, hc, ⟨cs, t, x, y, z⟩⟩ := j.pu p c e
    have h1 : p ≠ q := fun e1 => c0 ⟨p, c, e, .inl e1.symm⟩
    have h2 : c ≠ q := fun e1 => c0 ⟨p, c, e, .inr e1.symm⟩
    exact ⟨a, b, hp, hc, ⟨cs, t, by rw [upd_ne h1]; exact x, by rw [upd_ne h2]; exact y, z⟩⟩
  · have hb : b ≠ q := fun e => by rw [e, b0] at h2; cases h2
    rw [upd_ne hb]
    exact j.fr b o h1 h2
/-- it is changed no more: it is data -/
theorem J.ownEnd {n : Nat} {q : Addr} {es : List En} {r : List (Addr × List En)} (j : J K f ⟨n, (q, es) :: r⟩ G H) : ∃ xs, J K f ⟨n, r⟩ (upd G q (.lst xs)) H ∧ Vs K G xs es ∧ G q = none ∧ H q = some (.lst xs) := by
  obtain ⟨a0, b0, c0, ys, d0, x0⟩ := j.own q es (List.mem_cons_self ..)
  have nd := List.nodup_cons.mp (show (q :: r.map (·.1)).Nodup from j.nd)
  have eg : Ex G (upd G q (.lst ys)) := Ex.new a0
  refine ⟨ys, ⟨fun b o e => ?_, fun D fs m => ?_, nd.2, fun p c e => ?_, j.fr, j.g0.trans eg, fun b h1 h2 => ?_, j.tf.upd trivial⟩, x0, a0, d0⟩
  · by_cases hb : b = q
    · rw [hb, upd_same] at e
      cases e
      rw [hb]
      exact d0
    · rw [upd_ne hb] at e
      exact j.ex _ _ e
  · obtain ⟨a, b, c, zs, d, x⟩ := j.own D fs (List.mem_cons_of_mem _ m)
    have hb : D ≠ q := fun e => nd.1 (by rw [← e]; exact List.mem_map.mpr ⟨_, m, rfl⟩)
    exact ⟨by rw [upd_ne hb]; exact a, b, c, zs, d, x.mono eg⟩
  · obtain ⟨a, b, hp, hc, z⟩ := j.pu p c e
    have h1 : p ≠ q := fun e1 => c0 ⟨p, c, e, .inl e1.symm⟩
    have h2 : c ≠ q := fun e1 => c0 ⟨p, c, e, .inr e1.symm⟩
    exact ⟨by rw [upd_ne h1]; exact a, by rw [upd_ne h2]; exact b, hp, hc, z⟩
  · by_cases hb : b = q
    · rw [hb]; exact b0
    · rw [upd_ne hb] at h1
      exact j.fs b h1 h2
/-- it is dropped -/
theorem J.ownDrop {n : Nat} {q : Addr} {es : List En} {r : List (Addr × List En)} (j : J K f ⟨n, (q, es) :: r⟩ G H) : J K f ⟨n, r⟩ G H :=
  ⟨j.ex, fun D fs m => j.own D fs (List.mem_cons_of_mem _ m), (List.nodup_cons.mp (show (q :: r.map (·.1)).Nodup from j.nd)).2, j.pu, j.fr, j.g0, j.fs, j.tf⟩
theorem J.less {m n : Nat} {r : List (Addr × List En)} (j : J K f ⟨n, r⟩ G H) (h : m ≤ n) : J K f ⟨m, r⟩ G H :=
  ⟨j.ex, j.own, j.nd, fun p c e => by
    obtain ⟨a, b, hp, hc, ⟨cs, t, x, y, z1, z2, z3, z4⟩⟩ := j.pu p c e
    exact ⟨a, b, hp, hc, ⟨cs, t, x, y, z1, z2, z3, Nat.le_trans (Nat.add_le_add_left h t) z4⟩⟩, j.fr, j.g0, j.fs, j.tf⟩
/-- the purse is changed -/
theorem J.draw {m n : Nat} {r : List (Addr × List En)} {p c : Addr} (j : J K f ⟨n, r⟩ G H) (e : f.pu = some (p, c)) (k : ∀ b o, b ≠ p → b ≠ c → H b = some o → H2 b = some o) (u : PurseAt H2 p c m) : J K f ⟨m, r⟩ G H2 := by
  obtain ⟨a, b, hp, hc, _⟩ := j.pu p c e
  refine ⟨fun d o h => ?_, fun D fs q => ?_, j.nd, fun p' c' e' => ?_, fun d o h1 h2 => ?_, j.g0, j.fs, j.tf⟩
  · exact k d o (ne_of_none h a) (ne_of_none h b) (j.ex _ _ h)
  · obtain ⟨x1, x2, x3, xs, x4, x5⟩ := j.own D fs q
    exact ⟨x1, x2, x3, xs, k D _ (fun z => x3 ⟨p, c, e, .inl z⟩) (fun z => x3 ⟨p, c, e, .inr z⟩) x4, x5⟩
  · rw [e] at e'
    cases e'
    exact ⟨a, b, hp, hc, u⟩
  · exact k d o (fun z => h1 ⟨p, c, e, .inl z⟩) (fun z => h1 ⟨p, c, e, .inr z⟩) (j.fr d o h1 h2)
end
end Dl

namespace Dl
open PySem L2 Evl

/-! ### tuples with their objects -/
section
variable {X : Cx} {es : List Expr} {t : TA} {pos : Pos}
def tTupF (t : TA) : TE := fun σ H Q => t σ H fun xs H1 => xs.length ≤ sizeLine ∧ ∀ p o, o.dict = none → H1 p = none → Q (.ref p) (upd H1 p (.frz o (.tup xs)))
theorem pe_tupF {x1} (h : PA X es t) : PE X (.Tuple es x1 pos) (tTupF t) := by
  refine ⟨fun pins s σ H Q I hq => ?_⟩
  refine wpAny_Tuple_spliced (thn (h.run pos pins s σ H _ I hq) fun us s1 ⟨xs, H1, I1, r, z, q⟩ => ⟨by rw [← r.length]; exact z, ?_⟩)
  have hf : H1 s1.heap.objs.size = none := I1.hok.fresh (Nat.le_refl _)
  refine ⟨.ref s1.heap.objs.size, upd H1 s1.heap.objs.size (.frz { cls := .type "tuple", data := .seq us.toArray } (.tup xs)), I1.laid (t' := s1.toks) (fun b u e => Heap.get?_push_of_some _ e) (Nat.le_refl _) ?_, rfl, q _ _ rfl hf⟩
  exact ⟨Heap.get?_push_size _ rfl, z, us, r, ⟨_, Heap.get?_push_size _ rfl, rfl, _, rfl⟩⟩
def rTupF (K : PySem.W.Frag) : List V → Hp → VK → Prop := fun xs H Q => ∃ p ys, xs = [.ref p] ∧ ((SqL K H p ys ∧ ∀ l o, o.dict = none → H l = none → Q (.ref l) (upd H l (.frz o (.tup ys)))) ∨ (SqT K H p ys ∧ Q (.ref p) H))
theorem call_tupleF : CallR X (.type "tuple") (rTupF X.K) := by
  intro pins s σ H xs us Q I r h
  obtain ⟨p, ys, rfl, h⟩ := h
  obtain ⟨u, rfl, rx⟩ := vals1 r
  cases rx
  rcases h with ⟨hq, q⟩ | ⟨hq, q⟩
  · obtain ⟨its, r', pl, hz⟩ := I.list hq
    have hlen := r'.length
    refine call_tuple_list pl.isList (fun h' kp => ?_) (by simp only [List.size_toArray] <;> omega)
    have I1 : L2.Inv X pins σ H { s with heap := h' } := I.kept (t' := s.toks) kp
    have I2 : L2.Inv X pins σ (upd H h'.objs.size (.frz { cls := .type "tuple", data := .seq its.toArray } (.tup ys))) { s with heap := h'.push { cls := .type "tuple", data := .seq its.toArray } } :=
      I1.laid (t' := s.toks) (fun b o e => Heap.get?_push_of_some _ e) (Nat.le_refl _) (show ObjOk X.prog X.w _ _ _ (.frz _ (.tup ys)) from ⟨Heap.get?_push_size _ rfl, hz, its, r', ⟨_, Heap.get?_push_size _ rfl, rfl, _, rfl⟩⟩)
    exact ⟨.ref h'.objs.size, _, I2, rfl, q _ _ rfl (I1.hok.fresh (Nat.le_refl _))⟩
  · obtain ⟨its, r', pl, hz⟩ := I.tuple hq
    exact call_tuple_same pl ⟨.ref p, H, I, rfl, q⟩
end
theorem st_frz {K : PySem.W.Frag} {H : Hp} {a : Addr} {o : Obj} {xs : List V} (h : H a = some (.frz o (.tup xs))) : SqT K H a xs := Or.inl (Or.inr ⟨o, h⟩)
/-! ### judgements -/
def Is {α : Type} (s : Sx) (x : α) : Sx → α → Prop := fun s' x' => s' = s ∧ x' = x
def ED (K : PySem.W.Frag) (f : Fx) (s : Sx) (te : TE) (δ : List En) (P : Sx → En → Prop) : Prop :=
  ∀ G H σ (Q : VK), Slots K G σ δ → J K f s G H → (∀ v x s' G2 H2, Ex G G2 → J K f s' G2 H2 → Ok K G2 v x → P s' x → Q v H2) → te σ H Q
def EA (K : PySem.W.Frag) (f : Fx) (s : Sx) (ta : TA) (δ : List En) (P : Sx → List En → Prop) : Prop :=
  ∀ G H σ (Q : List V → Hp → Prop), Slots K G σ δ → J K f s G H → (∀ vs xs s' G2 H2, Ex G G2 → J K f s' G2 H2 → Vs K G2 vs xs → P s' xs → Q vs H2) → ta σ H Q
def ET (K : PySem.W.Frag) (f : Fx) (s : Sx) (tt : TT) (δ : List En) (P : Sx → Bool → Prop) : Prop :=
  ∀ G H σ (Q : Bool → Hp → Prop), Slots K G σ δ → J K f s G H → (∀ b s' G2 H2, Ex G G2 → J K f s' G2 H2 → P s' b → Q b H2) → tt σ H Q
/-- an operation on two values, a call of values -/
def OD (K : PySem.W.Frag) (f : Fx) (r : R2) (s : Sx) (x y : En) (P : Sx → En → Prop) : Prop :=
  ∀ G H v u (Q : VK), J K f s G H → Ok K G v x → Ok K G u y → (∀ w z s' G2 H2, Ex G G2 → J K f s' G2 H2 → Ok K G2 w z → P s' z → Q w H2) → r v u H Q
def UD (K : PySem.W.Frag) (f : Fx) (r : V → Hp → VK → Prop) (s : Sx) (x : En) (P : Sx → En → Prop) : Prop :=
  ∀ G H v (Q : VK), J K f s G H → Ok K G v x → (∀ w z s' G2 H2, Ex G G2 → J K f s' G2 H2 → Ok K G2 w z → P s' z → Q w H2) → r v H Q
def CD (K : PySem.W.Frag) (f : Fx) (r : List V → Hp → VK → Prop) (s : Sx) (xs : List En) (P : Sx → En → Prop) : Prop :=
  ∀ G H vs (Q : VK), J K f s G H → Vs K G vs xs → (∀ w z s' G2 H2, Ex G G2 → J K f s' G2 H2 → Ok K G2 w z → P s' z → Q w H2) → r vs H Q

def enV : V → En
  | .int i => .dat (.int i)
  | .bl b => .dat (.bool b)
  | .str x => .dat (.str x)
  | .non => .dat .none
  | v => .val v
theorem ok_enV {K : PySem.W.Frag} {G : Hp} (v : V) : Ok K G v (enV v) := by
  cases v with
  | int i => exact .int i
  | bl b => exact .bl b
  | str x => exact .str x
  | non => exact .non
  | _ => exact rfl
def dats : List En → Option (List PyData)
  | [] => some []
  | .dat d :: r => (dats r).map (d :: ·)
  | _ :: _ => none
theorem dats_eq : ∀ {es : List En} {ds : List PyData}, dats es = some ds → es = ds.map .dat
  | [], _, e => by cases e; rfl
  | .dat d :: r, ds, e => by
    cases h : dats r with
    | none => simp [dats, h] at e
    | some q =>
      simp only [dats, h, Option.map_some, Option.some.injEq] at e
      subst e
      rw [dats_eq h]
      rfl
  | .no :: _, _, e => by simp [dats] at e
  | .val _ :: _, _, e => by simp [dats] at e
  | .th _ _ :: _, _, e => by simp [dats] at e

section
variable {K : PySem.W.Frag} {f : Fx} {s : Sx} {G H G2 H2 : Hp} {Q : VK} {w : V} {d : PyData}
theorem fD (k : ∀ w z s' G2 H2, Ex G G2 → J K f s' G2 H2 → Ok K G2 w z → Is s (.dat d) s' z → Q w H2) (jj : J K f s G H) (o : Dp K G w d) : Q w H := k w (.dat d) s G H (Ex.refl G) jj o ⟨rfl, rfl⟩
theorem fN (k : ∀ w z s' G2 H2, Ex G G2 → J K f s' G2 H2 → Ok K G2 w z → Is s (.dat d) s' z → Q w H2) (e : Ex G G2) (jj : J K f s G2 H2) (o : Dp K G2 w d) : Q w H2 := k w (.dat d) s G2 H2 e jj o ⟨rfl, rfl⟩
/-- a new list, a new tuple of data -/
theorem fL {xs : List V} {ds : List PyData} {p : Addr} (k : ∀ w z s' G2 H2, Ex G G2 → J K f s' G2 H2 → Ok K G2 w z → Is s (.dat (.list ds)) s' z → Q w H2) (jj : J K f s G H) (al : DpAll K G xs ds) (hp : H p = none) : Q (.ref p) (upd H p (.lst xs)) :=
  have eg : Ex G (upd G p (.lst xs)) := Ex.new (fresh_back jj.ex hp)
  fN k eg (jj.alloc hp _ trivial) (.lst (sq_of upd_same) (dpaMono eg al))
theorem fT {xs : List V} {ds : List PyData} {p : Addr} (k : ∀ w z s' G2 H2, Ex G G2 → J K f s' G2 H2 → Ok K G2 w z → Is s (.dat (.tuple ds)) s' z → Q w H2) (jj : J K f s G H) (al : DpAll K G xs ds) {o : Obj} (ho : o.dict = none) (hp : H p = none) : Q (.ref p) (upd H p (.frz o (.tup xs))) :=
  have eg : Ex G (upd G p (.frz o (.tup xs))) := Ex.new (fresh_back jj.ex hp)
  fN k eg (jj.alloc hp _ ho) (.tup (st_frz upd_same) (dpaMono eg al))
end
section
variable {K : PySem.W.Frag} {f : Fx} {s : Sx} {δ : List En} {ta tb te : TE} {tt tu : TT} {P R : Sx → En → Prop} {x y z : En}
theorem ed_imp (h : ED K f s te δ P) (i : ∀ s x, P s x → R s x) : ED K f s te δ R := fun G H σ Q a b c => h G H σ Q a b fun v x s' G2 H2 e j o p => c v x s' G2 H2 e j o (i _ _ p)
theorem ed_is (h : ED K f s te δ (Is s x)) (e : x = y) : ED K f s te δ (Is s y) := e ▸ h
theorem ed_var {i : Nat} (h : δ[i]? = some x) (t : x.told = true := by rfl) : ED K f s (tVar i) δ (Is s x) := fun G H σ Q a b c => by
  obtain ⟨v, e, o⟩ := Slots.get a h t
  exact ⟨v, e, c v x s G H (Ex.refl G) b o ⟨rfl, rfl⟩⟩
theorem ed_c {v : V} : ED K f s (tC v) δ (Is s (enV v)) := fun G H σ Q a b c => c v _ s G H (Ex.refl G) b (ok_enV v) ⟨rfl, rfl⟩
theorem ed_opN {P2 : Sx → En → Sx → En → Prop} {r : R2} (ha : ED K f s ta δ P) (hb : ∀ s1 x, P s1 x → ED K f s1 tb δ (P2 s1 x)) (hr : ∀ s1 x s2 y, P s1 x → P2 s1 x s2 y → OD K f r s2 x y R) : ED K f s (tOp r ta tb) δ R := fun G H σ Q a b c =>
  ha G H σ _ a b fun v x s1 G1 H1 e1 j1 o1 p1 => hb s1 x p1 G1 H1 σ _ (Slots.mono e1 a) j1 fun u y s2 G2 H2 e2 j2 o2 p2 => hr s1 x s2 y p1 p2 G2 H2 v u Q j2 (o1.mono e2) o2 fun w z s3 G3 H3 e3 j3 o3 p3 => c w z s3 G3 H3 ((e1.trans e2).trans e3) j3 o3 p3
theorem ed_op {r : R2} (ha : ED K f s ta δ (Is s x)) (hb : ED K f s tb δ (Is s y)) (hr : OD K f r s x y R) : ED K f s (tOp r ta tb) δ R :=
  ed_opN (P2 := fun _ _ => Is s y) ha (fun s1 x1 h => by obtain ⟨rfl, rfl⟩ := h; exact hb) fun s1 x1 s2 y1 h1 h2 => by obtain ⟨rfl, rfl⟩ := h1; obtain ⟨rfl, rfl⟩ := h2; exact hr
theorem ed_un {r : V → Hp → VK → Prop} (ha : ED K f s ta δ (Is s x)) (hr : UD K f r s x R) : ED K f s (tUn r ta) δ R := fun G H σ Q a b c =>
  ha G H σ _ a b fun v x1 s1 G1 H1 e1 j1 o1 p1 => by
    obtain ⟨rfl, rfl⟩ := p1
    exact hr G1 H1 v Q j1 o1 fun w z s3 G3 H3 e3 j3 o3 p3 => c w z s3 G3 H3 (e1.trans e3) j3 o3 p3
theorem od_I0 {g : Int → Int → V} {i j : Int} : OD K f (rI0 g) s (.dat (.int i)) (.dat (.int j)) (Is s (enV (g i j))) := fun G H v u Q jj a b c => by
  cases a; cases b
  exact ⟨i, j, rfl, rfl, c _ _ s G H (Ex.refl G) jj (ok_enV _) ⟨rfl, rfl⟩⟩
theorem od_I {C : Int → Int → Prop} {g : Int → Int → V} {i j : Int} (hc : C i j) : OD K f (rI C g) s (.dat (.int i)) (.dat (.int j)) (Is s (enV (g i j))) := fun G H v u Q jj a b c => by
  cases a; cases b
  exact ⟨i, j, rfl, rfl, hc, c _ _ s G H (Ex.refl G) jj (ok_enV _) ⟨rfl, rfl⟩⟩
theorem ud_neg {i : Int} : UD K f (rU fun i => .int (-i)) s (.dat (.int i)) (Is s (.dat (.int (-i)))) := fun G H v Q jj a c => by
  cases a
  exact ⟨i, rfl, fD c jj (.int _)⟩
theorem od_eqD {d e : PyData} (h1 : SeqAt.shaped d = true) (h2 : SeqAt.shaped e = true) : OD K f (rEqD K) s (.dat d) (.dat e) (Is s (.dat (.bool (PyData.eqv d e)))) := fun G H v u Q jj a b c =>
  ⟨d, e, dpMono jj.ex a, dpMono jj.ex b, h1, h2, fD c jj (.bl _)⟩
theorem od_neD {d e : PyData} (h1 : SeqAt.shaped d = true) (h2 : SeqAt.shaped e = true) : OD K f (rNeD K) s (.dat d) (.dat e) (Is s (.dat (.bool (!PyData.eqv d e)))) := fun G H v u Q jj a b c =>
  ⟨d, e, dpMono jj.ex a, dpMono jj.ex b, h1, h2, fD c jj (.bl _)⟩
theorem od_inD {d : PyData} {ds : List PyData} (h1 : SeqAt.shaped d = true) (h2 : SeqAt.shaped (.list ds) = true) : OD K f (rInD K) s (.dat d) (.dat (.list ds)) (Is s (.dat (.bool (ds.any fun z => PyData.eqv z d)))) := fun G H v u Q jj a b c =>
  ⟨d, ds, dpMono jj.ex a, dpMono jj.ex b, h1, h2, fD c jj (.bl _)⟩
theorem od_notInD {d : PyData} {ds : List PyData} (h1 : SeqAt.shaped d = true) (h2 : SeqAt.shaped (.list ds) = true) : OD K f (rNotInD K) s (.dat d) (.dat (.list ds)) (Is s (.dat (.bool (!ds.any fun z => PyData.eqv z d)))) := fun G H v u Q jj a b c =>
  ⟨d, ds, dpMono jj.ex a, dpMono jj.ex b, h1, h2, fD c jj (.bl _)⟩
theorem dpa_len {G : Hp} : ∀ {vs : List V} {ds : List PyData}, DpAll K G vs ds → vs.length = ds.length
  | _, _, .nil => rfl
  | _, _, .cons _ t => congrArg Nat.succ (dpa_len t)
theorem dpa_get {G : Hp} : ∀ {vs : List V} {ds : List PyData} {i : Nat} {d : PyData}, DpAll K G vs ds → ds[i]? = some d → ∃ v, vs[i]? = some v ∧ Dp K G v d
  | _, _, 0, _, .cons h _, e => by
    simp only [List.getElem?_cons_zero, Option.some.injEq] at e
    subst e
    exact ⟨_, rfl, h⟩
  | _, _, i + 1, _, .cons _ t, e => by
    simp only [List.getElem?_cons_succ] at e
    obtain ⟨v, a, b⟩ := dpa_get t e
    exact ⟨v, by simpa using a, b⟩
theorem dpa_getV {G : Hp} : ∀ {vs : List V} {ds : List PyData} {i : Nat} {v : V}, DpAll K G vs ds → vs[i]? = some v → ∃ d, ds[i]? = some d ∧ Dp K G v d
  | _, _, 0, _, .cons h _, e => by
    simp only [List.getElem?_cons_zero, Option.some.injEq] at e
    subst e
    exact ⟨_, rfl, h⟩
  | _, _, i + 1, _, .cons _ t, e => by
    simp only [List.getElem?_cons_succ] at e
    obtain ⟨v, a, b⟩ := dpa_getV t e
    exact ⟨v, by simpa using a, b⟩
theorem dpa_at {G : Hp} {vs : List V} {ds : List PyData} {i : Int} {d : PyData} (h : DpAll K G vs ds) (e : atI ds i = some d) : ∃ v, atI vs i = some v ∧ Dp K G v d := by
  unfold atI at e ⊢
  rw [dpa_len h]
  cases q : ixN ds.length i with
  | none => rw [q] at e; cases e
  | some j =>
    rw [q] at e
    exact dpa_get h e
theorem od_ix {ds : List PyData} {d c : PyData} {i : Int} (hk : c = .list ds ∨ c = .tuple ds) (e : atI ds i = some d) : OD K f (rIx K) s (.dat c) (.dat (.int i)) (Is s (.dat d)) := fun G H v u Q jj a b k => by
  cases b
  rcases hk with rfl | rfl
  · cases a with
    | lst sq al =>
      obtain ⟨w, e1, o⟩ := dpa_at al e
      exact .inl ⟨_, _, i, w, rfl, rfl, ex_l jj.ex sq, e1, fD k jj o⟩
  · cases a with
    | tup sq al =>
      obtain ⟨w, e1, o⟩ := dpa_at al e
      exact .inr (.inl ⟨_, _, i, w, rfl, rfl, ex_t jj.ex sq, e1, fD k jj o⟩)
/-! ### arguments -/
theorem ea_nil : EA K f s tNil δ (Is s []) := fun G H σ Q a b c => c [] [] s G H (Ex.refl G) b .nil ⟨rfl, rfl⟩
theorem ea_consN {tr : TA} {P2 : Sx → En → Sx → List En → Prop} {R : Sx → List En → Prop} (ha : ED K f s ta δ P) (hb : ∀ s1 x, P s1 x → EA K f s1 tr δ (P2 s1 x)) (k : ∀ s1 x s2 xs, P s1 x → P2 s1 x s2 xs → R s2 (x :: xs)) : EA K f s (tCons ta tr) δ R := fun G H σ Q a b c =>
  ha G H σ _ a b fun v x s1 G1 H1 e1 j1 o1 p1 => hb s1 x p1 G1 H1 σ _ (Slots.mono e1 a) j1 fun vs xs s2 G2 H2 e2 j2 o2 p2 => c _ _ s2 G2 H2 (e1.trans e2) j2 (.cons (o1.mono e2) o2) (k s1 x s2 xs p1 p2)
theorem ea_cons {tr : TA} {xs : List En} (ha : ED K f s ta δ (Is s x)) (hb : EA K f s tr δ (Is s xs)) : EA K f s (tCons ta tr) δ (Is s (x :: xs)) :=
  ea_consN (P2 := fun _ _ => Is s xs) ha (fun s1 x1 h => by obtain ⟨rfl, rfl⟩ := h; exact hb) fun s1 x1 s2 y1 h1 h2 => by obtain ⟨rfl, rfl⟩ := h1; obtain ⟨rfl, rfl⟩ := h2; exact ⟨rfl, rfl⟩
theorem ed_tup {t : TA} {es : List En} {ds : List PyData} (h : EA K f s t δ (Is s es)) (e : dats es = some ds) (hl : ds.length ≤ 100000 := by exact Nat.le_of_ble_eq_true rfl) : ED K f s (tTupF t) δ (Is s (.dat (.tuple ds))) := fun G H σ Q a b c =>
  h G H σ _ a b fun vs xs s1 G1 H1 e1 j1 o1 p1 => by
    obtain ⟨rfl, rfl⟩ := p1
    rw [dats_eq e] at o1
    have o2 := Vs.dpa o1
    refine ⟨sz_of (by rw [dpa_len o2]; exact hl), fun p o ho hp => ?_⟩
    exact fT (fun w z s' G2 H2 e3 => c w z s' G2 H2 (e1.trans e3)) j1 o2 ho hp
theorem ed_lst {t : TA} {es : List En} {ds : List PyData} (h : EA K f s t δ (Is s es)) (e : dats es = some ds) (hl : ds.length ≤ 100000 := by exact Nat.le_of_ble_eq_true rfl) : ED K f s (tLst t) δ (Is s (.dat (.list ds))) := fun G H σ Q a b c =>
  h G H σ _ a b fun vs xs s1 G1 H1 e1 j1 o1 p1 => by
    obtain ⟨rfl, rfl⟩ := p1
    rw [dats_eq e] at o1
    have o2 := Vs.dpa o1
    refine ⟨sz_of (by rw [dpa_len o2]; exact hl), fun p hp => ?_⟩
    exact fL (fun w z s' G2 H2 e3 => c w z s' G2 H2 (e1.trans e3)) j1 o2 hp
theorem ed_cb {r : List V → Hp → VK → Prop} {t : TA} {es : List En} (h : EA K f s t δ (Is s es)) (hr : CD K f r s es R) : ED K f s (tCB r t) δ R := fun G H σ Q a b c =>
  h G H σ _ a b fun vs xs s1 G1 H1 e1 j1 o1 p1 => by
    obtain ⟨rfl, rfl⟩ := p1
    exact hr G1 H1 vs Q j1 o1 fun w z s3 G3 H3 e3 j3 o3 p3 => c w z s3 G3 H3 (e1.trans e3) j3 o3 p3
/-! ### built-ins -/
theorem cd_len {ds : List PyData} {c : PyData} (hk : c = .list ds ∨ c = .tuple ds) : CD K f (fun xs H Q => ∃ p ys, xs = [.ref p] ∧ (SqL K H p ys ∨ SqT K H p ys) ∧ Q (.int ys.length) H) s [.dat c] (Is s (.dat (.int ds.length))) := fun G H vs Q jj a k => by
  cases a with
  | cons h t =>
    cases t
    rcases hk with rfl | rfl
    · cases h with
      | lst sq al =>
        refine ⟨_, _, rfl, .inl (ex_l jj.ex sq), ?_⟩
        rw [dpa_len al]
        exact fD k jj (.int _)
    · cases h with
      | tup sq al =>
        refine ⟨_, _, rfl, .inr (ex_t jj.ex sq), ?_⟩
        rw [dpa_len al]
        exact fD k jj (.int _)
theorem cd_list {ds : List PyData} {c : PyData} (hk : c = .list ds ∨ c = .tuple ds) : CD K f (fun xs H Q => ∃ p ys, xs = [.ref p] ∧ (SqL K H p ys ∨ SqT K H p ys) ∧ ∀ l, H l = none → Q (.ref l) (upd H l (.lst ys))) s [.dat c] (Is s (.dat (.list ds))) := fun G H vs Q jj a k => by
  cases a with
  | cons h t =>
    cases t
    rcases hk with rfl | rfl
    · cases h with
      | lst sq al =>
        refine ⟨_, _, rfl, .inl (ex_l jj.ex sq), fun p hp => ?_⟩
        exact fL k jj al hp
    · cases h with
      | tup sq al =>
        refine ⟨_, _, rfl, .inr (ex_t jj.ex sq), fun p hp => ?_⟩
        exact fL k jj al hp
theorem cd_tuple {ds : List PyData} : CD K f (rTupF K) s [.dat (.list ds)] (Is s (.dat (.tuple ds))) := fun G H vs Q jj a k => by
  cases a with
  | cons h t =>
    cases t
    cases h with
    | lst sq al =>
      refine ⟨_, _, rfl, .inl ⟨ex_l jj.ex sq, fun p o ho hp => ?_⟩⟩
      exact fT k jj al ho hp
theorem dpa_bools {G : Hp} : ∀ {vs : List V} {bs : List Bool}, DpAll K G vs (bs.map .bool) → vs = bs.map V.bl
  | _, [], h => by cases h; rfl
  | _, b :: bs, h => by
    cases h with
    | cons a t =>
      cases a
      rw [dpa_bools t]
      rfl
theorem dpa_ints {G : Hp} : ∀ {vs : List V} {bs : List Int}, DpAll K G vs (bs.map .int) → vs = bs.map V.int
  | _, [], h => by cases h; rfl
  | _, b :: bs, h => by
    cases h with
    | cons a t =>
      cases a
      rw [dpa_ints t]
      rfl
theorem cd_all {bs : List Bool} : CD K f (rAll K) s [.dat (.list (bs.map .bool))] (Is s (.dat (.bool (bs.all id)))) := fun G H vs Q jj a k => by
  cases a with
  | cons h t =>
    cases t
    cases h with
    | lst sq al =>
      rw [dpa_bools al] at sq
      exact ⟨_, bs, rfl, ex_l jj.ex sq, fD k jj (.bl _)⟩
/-- the class of data -/
def tyD : PyData → String
  | .none => "NoneType"
  | .bool _ => "bool"
  | .int _ => "int"
  | .str _ => "str"
  | .list _ => "list"
  | .tuple _ => "tuple"
  | .dict _ => "dict"
theorem ty_ok {G : Hp} {v : V} {d : PyData} (h : Dp K G v d) : TyX K G v (.type (tyD d)) := by
  cases h with
  | non => exact .base .non
  | bl b => exact .base (.bl b)
  | int i => exact .base (.int i)
  | str x => exact .base (.str x)
  | lst sq _ =>
    rcases sq with (e | ⟨o, e⟩) | ⟨o, its, n, e, c, _⟩
    · exact .base (.lst e)
    · exact .base (.frz e)
    · exact .kList e c
  | tup sq _ =>
    rcases sq with (e | ⟨o, e⟩) | ⟨o, its, n, e, c, _⟩
    · exact .base (.tup e)
    · exact .fTuple e
    · exact .kTuple e c
theorem cd_isi {d : PyData} {n : String} {b : Bool} (h : PySem.W.kitOne K (.type (tyD d)) (.type n) = some b) : CD K f (rIsi K) s [.dat d, .val (.ty n)] (Is s (.dat (.bool b))) := fun G H vs Q jj a k => by
  cases a with
  | cons h1 t =>
    cases t with
    | cons h2 t =>
      cases t
      cases (show _ = V.ty n from h2)
      exact ⟨_, _, _, _, b, rfl, .ty n, ty_ok (dpMono jj.ex h1), h, fD k jj (.bl _)⟩
end
end Dl

namespace Dl
open PySem L2 Evl
/-! ### tests -/
section
variable {K : PySem.W.Frag} {f : Fx} {s : Sx} {δ : List En} {ta tb te : TE} {tt tu : TT} {P R : Sx → En → Prop} {x y z : En} {a b : Bool}
theorem et_imp {P R : Sx → Bool → Prop} (h : ET K f s tt δ P) (i : ∀ s x, P s x → R s x) : ET K f s tt δ R := fun G H σ Q a b c => h G H σ Q a b fun v s' G2 H2 e j p => c v s' G2 H2 e j (i _ _ p)
theorem et_is (h : ET K f s tt δ (Is s a)) (e : a = b) : ET K f s tt δ (Is s b) := e ▸ h
theorem et_test (h : ED K f s te δ (Is s (.dat (.bool b)))) : ET K f s (tTest te) δ (Is s b) := fun G H σ Q a b c => h G H σ _ a b fun v x s1 G1 H1 e1 j1 o1 p1 => by
  obtain ⟨rfl, rfl⟩ := p1
  cases o1
  exact ⟨_, rfl, c _ _ G1 H1 e1 j1 ⟨rfl, rfl⟩⟩
theorem et_B (h : ED K f s te δ (Is s (.dat (.bool b)))) : ET K f s (tB te) δ (Is s b) := fun G H σ Q a b c => h G H σ _ a b fun v x s1 G1 H1 e1 j1 o1 p1 => by
  obtain ⟨rfl, rfl⟩ := p1
  cases o1
  exact ⟨_, rfl, c _ _ G1 H1 e1 j1 ⟨rfl, rfl⟩⟩
theorem et_and (h1 : ET K f s tt δ (Is s a)) (h2 : a = true → ET K f s tu δ (Is s b)) : ET K f s (tAnd tt tu) δ (Is s (a && b)) := fun G H σ Q sl j c => h1 G H σ _ sl j fun v s1 G1 H1 e1 j1 p1 => by
  obtain ⟨rfl, rfl⟩ := p1
  cases v with
  | true =>
    show tu σ H1 Q
    exact h2 rfl G1 H1 σ Q (Slots.mono e1 sl) j1 fun v s2 G2 H2 e2 j2 p2 => c v s2 G2 H2 (e1.trans e2) j2 (by obtain ⟨rfl, rfl⟩ := p2; exact ⟨rfl, by simp⟩)
  | false =>
    show Q false H1
    exact c _ _ G1 H1 e1 j1 ⟨rfl, by simp⟩
theorem et_or (h1 : ET K f s tt δ (Is s a)) (h2 : a = false → ET K f s tu δ (Is s b)) : ET K f s (tOr tt tu) δ (Is s (a || b)) := fun G H σ Q sl j c => h1 G H σ _ sl j fun v s1 G1 H1 e1 j1 p1 => by
  obtain ⟨rfl, rfl⟩ := p1
  cases v with
  | true =>
    show Q true H1
    exact c _ _ G1 H1 e1 j1 ⟨rfl, by simp⟩
  | false =>
    show tu σ H1 Q
    exact h2 rfl G1 H1 σ Q (Slots.mono e1 sl) j1 fun v s2 G2 H2 e2 j2 p2 => c v s2 G2 H2 (e1.trans e2) j2 (by obtain ⟨rfl, rfl⟩ := p2; exact ⟨rfl, by simp⟩)
theorem et_not (h1 : ET K f s tt δ (Is s a)) : ET K f s (tNot tt) δ (Is s (!a)) := fun G H σ Q sl j c => h1 G H σ _ sl j fun v s1 G1 H1 e1 j1 p1 => by
  obtain ⟨rfl, rfl⟩ := p1
  exact c _ _ G1 H1 e1 j1 ⟨rfl, rfl⟩
theorem ed_andV {P : Sx → En → Prop} (h1 : ED K f s ta δ (Is s (.dat (.bool a)))) (h2 : a = true → ED K f s tb δ P) (h3 : a = false → P s (.dat (.bool false))) : ED K f s (tAndV ta tb) δ P := fun G H σ Q sl j c => h1 G H σ _ sl j fun v x s1 G1 H1 e1 j1 o1 p1 => by
  obtain ⟨rfl, rfl⟩ := p1
  cases o1
  refine ⟨_, rfl, ?_⟩
  cases a with
  | true =>
    show tb σ H1 Q
    exact h2 rfl G1 H1 σ Q (Slots.mono e1 sl) j1 fun v x s2 G2 H2 e2 j2 o2 p2 => c v x s2 G2 H2 (e1.trans e2) j2 o2 p2
  | false =>
    show Q (.bl false) H1
    exact c _ (.dat (.bool false)) _ G1 H1 e1 j1 (.bl _) (h3 rfl)
theorem ed_orV {P : Sx → En → Prop} (h1 : ED K f s ta δ (Is s (.dat (.bool a)))) (h2 : a = false → ED K f s tb δ P) (h3 : a = true → P s (.dat (.bool true))) : ED K f s (tOrV ta tb) δ P := fun G H σ Q sl j c => h1 G H σ _ sl j fun v x s1 G1 H1 e1 j1 o1 p1 => by
  obtain ⟨rfl, rfl⟩ := p1
  cases o1
  refine ⟨_, rfl, ?_⟩
  cases a with
  | false =>
    show tb σ H1 Q
    exact h2 rfl G1 H1 σ Q (Slots.mono e1 sl) j1 fun v x s2 G2 H2 e2 j2 o2 p2 => c v x s2 G2 H2 (e1.trans e2) j2 o2 p2
  | true =>
    show Q (.bl true) H1
    exact c _ (.dat (.bool true)) _ G1 H1 e1 j1 (.bl _) (h3 rfl)
theorem ed_notV (h1 : ED K f s ta δ (Is s (.dat (.bool a)))) : ED K f s (tNotV ta) δ (Is s (.dat (.bool (!a)))) := fun G H σ Q sl j c => h1 G H σ _ sl j fun v x s1 G1 H1 e1 j1 o1 p1 => by
  obtain ⟨rfl, rfl⟩ := p1
  cases o1
  exact ⟨_, rfl, c _ (.dat (.bool (!a))) _ G1 H1 e1 j1 (.bl _) ⟨rfl, rfl⟩⟩
theorem ed_if {P : Sx → En → Prop} {PT : Sx → Bool → Prop} (h : ET K f s tt δ PT) (h1 : ∀ s1, PT s1 true → ED K f s1 ta δ P) (h2 : ∀ s1, PT s1 false → ED K f s1 tb δ P) : ED K f s (tIf tt ta tb) δ P := fun G H σ Q sl j c => h G H σ _ sl j fun v s1 G1 H1 e1 j1 p1 => by
  cases v with
  | true =>
    show ta σ H1 Q
    exact h1 s1 p1 G1 H1 σ Q (Slots.mono e1 sl) j1 fun v x s2 G2 H2 e2 j2 o2 p2 => c v x s2 G2 H2 (e1.trans e2) j2 o2 p2
  | false =>
    show tb σ H1 Q
    exact h2 s1 p1 G1 H1 σ Q (Slots.mono e1 sl) j1 fun v x s2 G2 H2 e2 j2 o2 p2 => c v x s2 G2 H2 (e1.trans e2) j2 o2 p2
end

/-! ### statements -/
structure Po where
  nx : Sx → List En → Prop
  rt : Sx → En → Prop
  bk : Sx → List En → Prop := fun _ _ => False
  ct : Sx → List En → Prop := fun _ _ => False
structure Sat (K : PySem.W.Frag) (f : Fx) (G : Hp) (D : Ends) (p : Po) : Prop where
  nx : ∀ σ δ s' G2 H2, Ex G G2 → J K f s' G2 H2 → Slots K G2 σ δ → p.nx s' δ → D.nx σ H2
  rt : ∀ v x s' G2 H2, Ex G G2 → J K f s' G2 H2 → Ok K G2 v x → p.rt s' x → D.rt v H2
  bk : ∀ σ δ s' G2 H2, Ex G G2 → J K f s' G2 H2 → Slots K G2 σ δ → p.bk s' δ → D.bk σ H2
  ct : ∀ σ δ s' G2 H2, Ex G G2 → J K f s' G2 H2 → Slots K G2 σ δ → p.ct s' δ → D.ct σ H2
theorem Sat.mono {K : PySem.W.Frag} {f : Fx} {G G1 : Hp} {D : Ends} {p : Po} (e : Ex G G1) (h : Sat K f G D p) : Sat K f G1 D p :=
  ⟨fun σ δ s' G2 H2 e2 => h.nx σ δ s' G2 H2 (e.trans e2), fun σ δ s' G2 H2 e2 => h.rt σ δ s' G2 H2 (e.trans e2), fun σ δ s' G2 H2 e2 => h.bk σ δ s' G2 H2 (e.trans e2), fun σ δ s' G2 H2 e2 => h.ct σ δ s' G2 H2 (e.trans e2)⟩
def SD (K : PySem.W.Frag) (f : Fx) (s : Sx) (ts : TS) (δ : List En) (p : Po) : Prop := ∀ G H σ D, Slots K G σ δ → J K f s G H → Sat K f G D p → ts D σ H
section
variable {K : PySem.W.Frag} {f : Fx} {s : Sx} {δ : List En} {ta tb te : TE} {tt tu : TT} {P R : Sx → En → Prop} {t u : TS} {p : Po}
theorem sd_next (h : p.nx s δ) : SD K f s tNext δ p := fun G H σ D a b c => c.nx σ δ s G H (Ex.refl G) b a h
theorem sd_asg {i : Nat} (h : ED K f s te δ P) (k : ∀ s' x, P s' x → p.nx s' (δ.set i x)) : SD K f s (tAsg te (gName i)) δ p := fun G H σ D a b c => h G H σ _ a b fun v x s1 G1 H1 e1 j1 o1 p1 =>
  c.nx _ _ s1 G1 H1 e1 j1 (Slots.set (SOk.of o1) i (Slots.mono e1 a)) (k s1 x p1)
theorem sd_seq {M : Sx → List En → Prop} (h : SD K f s t δ { p with nx := M }) (k : ∀ s' δ', M s' δ' → SD K f s' u δ' p) : SD K f s (tSeq t u) δ p := fun G H σ D a b c =>
  h G H σ { D with nx := u D } a b ⟨fun σ δ s' G2 H2 e2 j2 sl m => k s' δ m G2 H2 σ D sl j2 (c.mono e2), c.rt, c.bk, c.ct⟩
theorem sd_asgS {i : Nat} (h : ED K f s te δ P) (k : ∀ s' x, P s' x → SD K f s' u (δ.set i x) p) : SD K f s (tSeq (tAsg te (gName i)) u) δ p :=
  sd_seq (M := fun s' δ' => ∃ x, P s' x ∧ δ' = δ.set i x) (sd_asg h fun s' x q => ⟨x, q, rfl⟩) fun s' δ' ⟨x, q, e⟩ => by
    subst e
    exact k s' x q
theorem sd_asgI {i : Nat} {x : En} (h : ED K f s te δ (Is s x)) (k : SD K f s u (δ.set i x) p) : SD K f s (tSeq (tAsg te (gName i)) u) δ p :=
  sd_asgS h fun s' x q => by
    obtain ⟨rfl, rfl⟩ := q
    exact k
theorem sd_ret (h : ED K f s te δ P) (k : ∀ s' x, P s' x → p.rt s' x) : SD K f s (tRet te) δ p := fun G H σ D a b c => h G H σ _ a b fun v x s1 G1 H1 e1 j1 o1 p1 => c.rt _ _ s1 G1 H1 e1 j1 o1 (k s1 x p1)
theorem sd_retI {x : En} (h : ED K f s te δ (Is s x)) (k : p.rt s x) : SD K f s (tRet te) δ p := sd_ret h fun s' x q => by
    obtain ⟨rfl, rfl⟩ := q
    exact k
theorem sd_drop (h : ED K f s te δ P) (k : ∀ s' x, P s' x → p.nx s' δ) : SD K f s (tDrop te) δ p := fun G H σ D a b c => h G H σ _ a b fun v x s1 G1 H1 e1 j1 o1 p1 => c.nx _ _ s1 G1 H1 e1 j1 (Slots.mono e1 a) (k s1 x p1)
theorem sd_if {PT : Sx → Bool → Prop} (h : ET K f s tt δ PT) (h1 : ∀ s1, PT s1 true → SD K f s1 t δ p) (h2 : ∀ s1, PT s1 false → SD K f s1 u δ p) : SD K f s (tIfS tt t u) δ p := fun G H σ D a b c => h G H σ _ a b fun v s1 G1 H1 e1 j1 p1 => by
  cases v with
  | true =>
    show t D σ H1
    exact h1 s1 p1 G1 H1 σ D (Slots.mono e1 a) j1 (c.mono e1)
  | false =>
    show u D σ H1
    exact h2 s1 p1 G1 H1 σ D (Slots.mono e1 a) j1 (c.mono e1)
/-- if c: .. (that leaves), then the rest -/
theorem sd_when {PT : Sx → Bool → Prop} (h : ET K f s tt δ PT) (h1 : ∀ s1, PT s1 true → SD K f s1 t δ { p with nx := fun _ _ => False }) (h2 : ∀ s1, PT s1 false → SD K f s1 u δ p) : SD K f s (tSeq (tIfS tt t tNext) u) δ p :=
  sd_seq (M := fun s' δ' => PT s' false ∧ δ' = δ) (sd_if h (fun s1 q => fun G H σ D a b c => h1 s1 q G H σ D a b ⟨fun _ _ _ _ _ _ _ _ z => z.elim, c.rt, c.bk, c.ct⟩) fun s1 q => sd_next ⟨q, rfl⟩) fun s' δ' ⟨q, e⟩ => by
    subst e
    exact h2 s' q
theorem sd_ifS {PT : Sx → Bool → Prop} {w : TS} (h : ET K f s tt δ PT) (h1 : ∀ s1, PT s1 true → SD K f s1 t δ { p with nx := fun s' δ' => SD K f s' w δ' p }) (h2 : ∀ s1, PT s1 false → SD K f s1 u δ { p with nx := fun s' δ' => SD K f s' w δ' p }) : SD K f s (tSeq (tIfS tt t u) w) δ p :=
  sd_seq (M := fun s' δ' => SD K f s' w δ' p) (sd_if h h1 h2) fun s' δ' q => q
/-- the test's answer is known -/
theorem sd_whenF (h : ET K f s tt δ (Is s false)) (h2 : SD K f s u δ p) : SD K f s (tSeq (tIfS tt t tNext) u) δ p :=
  sd_when h (fun s1 q => by cases q.2) fun s1 q => by
    obtain ⟨rfl, _⟩ := q
    exact h2
theorem sd_ifT {u : TS} (h : ET K f s tt δ (Is s true)) (h2 : SD K f s t δ p) : SD K f s (tIfS tt t u) δ p :=
  sd_if h (fun s1 q => by obtain ⟨rfl, _⟩ := q; exact h2) fun s1 q => by cases q.2
theorem sd_ifF (h : ET K f s tt δ (Is s false)) (h2 : SD K f s u δ p) : SD K f s (tIfS tt t u) δ p :=
  sd_if h (fun s1 q => by cases q.2) fun s1 q => by obtain ⟨rfl, _⟩ := q; exact h2
/-! ### loops -/
def pAt (K : PySem.W.Frag) (f : Fx) (G1 : Hp) (W : Sx → List En → Prop) (σ : St) (H : Hp) : Prop := ∃ s' δ' G', Ex G1 G' ∧ J K f s' G' H ∧ Slots K G' σ δ' ∧ W s' δ'
theorem sat_turn {G1 G' : Hp} {D : Ends} {p : Po} {W : Sx → List En → Prop} (c : Sat K f G1 D p) (e : Ex G1 G') : Sat K f G' { D with nx := pAt K f G1 W, ct := pAt K f G1 W, bk := D.nx } { p with nx := W, ct := W, bk := p.nx } where
  nx := fun σ δ s' G2 H2 e2 j2 sl q => ⟨s', δ, G2, e.trans e2, j2, sl, q⟩
  rt := fun v x s' G2 H2 e2 j2 o q => c.rt v x s' G2 H2 (e.trans e2) j2 o q
  bk := fun σ δ s' G2 H2 e2 j2 sl q => c.nx σ δ s' G2 H2 (e.trans e2) j2 sl q
  ct := fun σ δ s' G2 H2 e2 j2 sl q => ⟨s', δ, G2, e.trans e2, j2, sl, q⟩
theorem sd_forL {tl : TE} {ds : List PyData} {j : Nat} (h : ED K f s tl δ (Is s (.dat (.list ds)))) (W : Nat → Sx → List En → Prop) (h0 : W 0 s δ)
    (hs : ∀ i d s' δ', ds[i]? = some d → W i s' δ' → SD K f s' t (δ'.set j (.dat d)) { p with nx := W (i + 1), ct := W (i + 1), bk := p.nx }) (hd : ∀ s' δ', W ds.length s' δ' → p.nx s' δ') : SD K f s (tFor (iList K tl) (gName j) t) δ p := fun G H σ D a b c =>
  h G H σ _ a b fun v x s1 G1 H1 e1 j1 o1 p1 => by
    obtain ⟨rfl, rfl⟩ := p1
    cases o1 with
    | lst sq al =>
      rename_i ad xs
      refine ⟨ad, rfl, ⟨xs, ex_l j1.ex sq⟩, for_list (xs := xs) (fun i => pAt K f G1 (W i)) ⟨s1, δ, G1, Ex.refl G1, j1, Slots.mono e1 a, h0⟩ (fun i σ' H' _ hp => ?_) (fun i y σ' H' hy hp => ?_) (fun σ' H' hp => ?_)⟩
      · obtain ⟨s', δ', G', eg, jj, _⟩ := hp
        exact ex_l jj.ex (ex_l eg sq)
      · obtain ⟨s', δ', G', eg, jj, sl, w⟩ := hp
        obtain ⟨d, hd', od⟩ := dpa_getV al hy
        exact hs i d s' δ' hd' w G' H' _ _ (Slots.set (SOk.of (show Ok K G' y (.dat d) from dpMono eg od)) j sl) jj (sat_turn (c.mono e1) eg)
      · obtain ⟨s', δ', G', eg, jj, sl, w⟩ := hp
        rw [dpa_len al] at w
        exact c.nx σ' δ' s' G' H' (e1.trans eg) jj sl (hd s' δ' w)
theorem sd_forT {tl : TE} {ds : List PyData} {j : Nat} (h : ED K f s tl δ (Is s (.dat (.tuple ds)))) (W : Nat → Sx → List En → Prop) (h0 : W 0 s δ)
    (hs : ∀ i d s' δ', ds[i]? = some d → W i s' δ' → SD K f s' t (δ'.set j (.dat d)) { p with nx := W (i + 1), ct := W (i + 1), bk := p.nx }) (hd : ∀ s' δ', W ds.length s' δ' → p.nx s' δ') : SD K f s (tFor (iTup K tl) (gName j) t) δ p := fun G H σ D a b c =>
  h G H σ _ a b fun v x s1 G1 H1 e1 j1 o1 p1 => by
    obtain ⟨rfl, rfl⟩ := p1
    cases o1 with
    | tup sq al =>
      rename_i ad xs
      refine ⟨ad, rfl, ⟨xs, ex_t j1.ex sq⟩, for_tup (xs := xs) (fun i => pAt K f G1 (W i)) ⟨s1, δ, G1, Ex.refl G1, j1, Slots.mono e1 a, h0⟩ (fun i σ' H' _ hp => ?_) (fun i y σ' H' hy hp => ?_) (fun σ' H' hp => ?_)⟩
      · obtain ⟨s', δ', G', eg, jj, _⟩ := hp
        exact ex_t jj.ex (ex_t eg sq)
      · obtain ⟨s', δ', G', eg, jj, sl, w⟩ := hp
        obtain ⟨d, hd', od⟩ := dpa_getV al hy
        exact hs i d s' δ' hd' w G' H' _ _ (Slots.set (SOk.of (show Ok K G' y (.dat d) from dpMono eg od)) j sl) jj (sat_turn (c.mono e1) eg)
      · obtain ⟨s', δ', G', eg, jj, sl, w⟩ := hp
        rw [dpa_len al] at w
        exact c.nx σ' δ' s' G' H' (e1.trans eg) jj sl (hd s' δ' w)
theorem sd_forR {ta : TA} {n : Nat} {j : Nat} (h : EA K f s ta δ (Is s [.dat (.int (n : Int))])) (hn : n ≤ 100000) (W : Nat → Sx → List En → Prop) (h0 : W 0 s δ)
    (hs : ∀ i s' δ', i < n → W i s' δ' → SD K f s' t (δ'.set j (.dat (.int (i : Int)))) { p with nx := W (i + 1), ct := W (i + 1), bk := p.nx }) (hd : ∀ s' δ', W n s' δ' → p.nx s' δ') : SD K f s (tFor (iRng1 ta) (gName j) t) δ p := fun G H σ D a b c =>
  h G H σ _ a b fun vs xs s1 G1 H1 e1 j1 o1 p1 => by
    obtain ⟨rfl, rfl⟩ := p1
    cases o1 with
    | cons o1 o2 =>
      cases o2
      cases o1
      refine ⟨n, rfl, by omega, by omega, for_range (lo := 0) (n := ((n : Int)).toNat) (fun i => pAt K f G1 (W i)) ⟨s1, δ, G1, Ex.refl G1, j1, Slots.mono e1 a, h0⟩ (fun i σ' H' hi hp => ?_) (fun σ' H' hp => ?_)⟩
      · obtain ⟨s', δ', G', eg, jj, sl, w⟩ := hp
        have e0 : (0 : Int) + (i : Int) = (i : Int) := Int.zero_add _
        have q := hs i s' δ' (by omega) w G' H' (σ'.set j (some (.int (i : Int)))) { D with nx := pAt K f G1 (W (i + 1)), ct := pAt K f G1 (W (i + 1)), bk := D.nx } (Slots.set (SOk.of (show Ok K G' (.int (i : Int)) (.dat (.int (i : Int))) from .int _)) j sl) jj (sat_turn (c.mono e1) eg)
        show t _ (σ'.set j (some (.int ((0 : Int) + (i : Int))))) H'
        rw [e0]
        exact q
      · obtain ⟨s', δ', G', eg, jj, sl, w⟩ := hp
        rw [Int.toNat_natCast] at w
        exact c.nx σ' δ' s' G' H' (e1.trans eg) jj sl (hd s' δ' w)
theorem sd_while (W : Nat → Sx → List En → Prop) (m0 : Nat) (h0 : W m0 s δ)
    (hs : ∀ m s' δ', W m s' δ' → ∃ b, ET K f s' tt δ' (Is s' b) ∧ (b = true → SD K f s' t δ' { p with nx := fun s2 δ2 => ∃ m', m' < m ∧ W m' s2 δ2, ct := fun s2 δ2 => ∃ m', m' < m ∧ W m' s2 δ2, bk := p.nx }) ∧ (b = false → p.nx s' δ')) : SD K f s (tWhile tt t) δ p := fun G H σ D a b c => by
  refine ⟨fun m => pAt K f G (W m), ⟨m0, s, δ, G, Ex.refl G, b, a, h0⟩, fun m σ' H' hp => ?_⟩
  obtain ⟨s', δ', G', eg, jj, sl, w⟩ := hp
  obtain ⟨bb, h1, h2, h3⟩ := hs m s' δ' w
  refine h1 G' H' σ' _ sl jj fun v s2 G2 H2 e2 j2 q => ?_
  obtain ⟨rfl, rfl⟩ := q
  cases v with
  | true =>
    refine ⟨pAt K f G (fun s2 δ2 => ∃ m', m' < m ∧ W m' s2 δ2), fun σ3 H3 h3 => ?_, ?_⟩
    · obtain ⟨s3, δ3, G3, e3, j3, sl3, m', hm, w3⟩ := h3
      exact ⟨m', hm, s3, δ3, G3, e3, j3, sl3, w3⟩
    · exact h2 rfl G2 H2 σ' _ (Slots.mono e2 sl) j2 (sat_turn c (eg.trans e2))
  | false => exact c.nx σ' δ' s2 G2 H2 (eg.trans e2) j2 (Slots.mono e2 sl) (h3 rfl)
end
end Dl

namespace Dl
open PySem L2 Evl
/-! ### comprehensions -/
def lcE (ft : PyData → Bool) (g : PyData → PyData) (ds : List PyData) : List En := ((ds.filter ft).map g).map .dat
theorem lcE_yes {ft : PyData → Bool} {g : PyData → PyData} {ds : List PyData} {i : Nat} {d : PyData} (e : ds[i]? = some d) (h : ft d = true) : lcE ft g (ds.take (i + 1)) = lcE ft g (ds.take i) ++ [.dat (g d)] := by
  unfold lcE
  rw [List.take_add_one, e]
  simp [h]
theorem lcE_no {ft : PyData → Bool} {g : PyData → PyData} {ds : List PyData} {i : Nat} {d : PyData} (e : ds[i]? = some d) (h : ft d = false) : lcE ft g (ds.take (i + 1)) = lcE ft g (ds.take i) := by
  unfold lcE
  rw [List.take_add_one, e]
  simp [h]
theorem lcE_len (ft : PyData → Bool) (g : PyData → PyData) (ds : List PyData) : (lcE ft g ds).length ≤ ds.length := by
  unfold lcE
  rw [List.length_map, List.length_map]
  exact List.length_filter_le _ _
theorem wipe1 {σ : St} {j : Nat} {y : Option V} : wipe ((wipe σ [j]).set j y) [j] = wipe σ [j] := by
  show (((σ.set j none).set j y).set j none) = σ.set j none
  rw [List.set_set, List.set_set]
section
variable {K : PySem.W.Frag} {f : Fx} {s : Sx} {δ : List En} {ta tb te tl : TE} {tt tu : TT} {P R : Sx → En → Prop} {t u : TS} {p : Po}
def lcAt (K : PySem.W.Frag) (f : Fx) (s : Sx) (G1 : Hp) (Dl : Addr) (es : List En) (H : Hp) : Prop := ∃ G', Ex G1 G' ∧ J K f ⟨s.n, (Dl, es) :: s.own⟩ G' H
theorem lc_turn {G1 H : Hp} {σ2 : St} {δ2 : List En} {Dl : Addr} {ft : PyData → Bool} {g : PyData → PyData} {ds : List PyData} {i : Nat} {d : PyData} (hl : ds.length ≤ 90000) (e : ds[i]? = some d) (h : lcAt K f s G1 Dl (lcE ft g (ds.take i)) H)
    (sl : ∀ G', Ex G1 G' → Slots K G' σ2 δ2) (ht : ∀ s', ET K f s' tt δ2 (Is s' (ft d))) (he : ft d = true → ∀ s', ED K f s' te δ2 (Is s' (.dat (g d)))) :
    tt σ2 H fun b H3 => if b = true then te σ2 H3 fun y H4 => ∃ acc, H4 Dl = some (.lst acc) ∧ acc.length < sizeLine ∧ lcAt K f s G1 Dl (lcE ft g (ds.take (i + 1))) (upd H4 Dl (.lst (acc ++ [y]))) else lcAt K f s G1 Dl (lcE ft g (ds.take (i + 1))) H3 := by
  obtain ⟨G', eg, jj⟩ := h
  refine ht _ G' H σ2 _ (sl G' eg) jj fun b s1 G2 H2 e2 j2 q => ?_
  obtain ⟨rfl, rfl⟩ := q
  cases hf : ft d with
  | true =>
    refine iteT (he hf _ G2 H2 σ2 _ (sl G2 (eg.trans e2)) j2 fun y x s2 G3 H3 e3 j3 o3 q3 => ?_)
    obtain ⟨rfl, rfl⟩ := q3
    obtain ⟨a1, a2, a3, acc, a4, a5⟩ := j3.own Dl _ (List.mem_cons_self ..)
    refine ⟨acc, a4, sz_lt ?_, G3, (eg.trans e2).trans e3, ?_⟩
    · rw [a5.len]
      have := lcE_len ft g (ds.take i)
      rw [List.length_take] at this
      omega
    · rw [lcE_yes e hf]
      exact j3.ownSet (Vs.app a5 o3)
  | false =>
    refine iteF ⟨G2, eg.trans e2, ?_⟩
    rw [lcE_no e hf]
    exact j2
theorem lc_end {G1 H : Hp} {Q : VK} {Dl : Addr} {ft : PyData → Bool} {g : PyData → PyData} {ds : List PyData} {G : Hp} (eG : Ex G G1) (h : lcAt K f s G1 Dl (lcE ft g ds) H)
    (k : ∀ w z s' G2 H2, Ex G G2 → J K f s' G2 H2 → Ok K G2 w z → Is s (.dat (.list ((ds.filter ft).map g))) s' z → Q w H2) : Q (.ref Dl) H := by
  obtain ⟨G', eg, jj⟩ := h
  obtain ⟨xs, j2, v, hg, hx⟩ := jj.ownEnd
  have e2 : Ex G' (upd G' Dl (.lst xs)) := Ex.new hg
  exact fN k ((eG.trans eg).trans e2) j2 (.lst (sq_of upd_same) (dpaMono e2 (Vs.dpa v)))
theorem ed_lcT {ds : List PyData} {j : Nat} (ft : PyData → Bool) (g : PyData → PyData) (h : ED K f s tl δ (Is s (.dat (.tuple ds)))) (hl : ds.length ≤ 90000)
    (ht : ∀ d, d ∈ ds → ∀ s', ET K f s' tt ((wipeE δ [j]).set j (.dat d)) (Is s' (ft d))) (he : ∀ d, d ∈ ds → ft d = true → ∀ s', ED K f s' te ((wipeE δ [j]).set j (.dat d)) (Is s' (.dat (g d)))) :
    ED K f s (tLc (iTup K tl) (gName j) tt te [j]) δ (Is s (.dat (.list ((ds.filter ft).map g)))) := fun G H σ Q a b c =>
  h G H σ _ a b fun v x s1 G1 H1 e1 j1 o1 p1 => by
    obtain ⟨rfl, rfl⟩ := p1
    cases o1 with
    | tup sq al =>
      rename_i ad xs
      refine ⟨ad, rfl, ⟨xs, ex_t j1.ex sq⟩, fun Dl hD => lc_tup (xs := xs) (fun i => lcAt K f s1 G1 Dl (lcE ft g (ds.take i))) ⟨G1, Ex.refl G1, j1.ownNew hD .nil⟩ (fun i H' _ hp => ?_) (fun i y H' hy hp => ⟨wipe1, ?_⟩) (fun H' hp => ?_)⟩
      · obtain ⟨G', eg, jj⟩ := hp
        exact ex_t jj.ex (ex_t eg sq)
      · obtain ⟨d, hd', od⟩ := dpa_getV al hy
        exact lc_turn hl hd' hp (fun G' eg => Slots.set (SOk.of (show Ok K G' y (.dat d) from dpMono eg od)) j (Slots.wipe (Slots.mono (e1.trans eg) a) [j])) (ht d (List.mem_of_getElem? hd')) (he d (List.mem_of_getElem? hd'))
      · rw [dpa_len al, List.take_length] at hp
        exact lc_end e1 hp c
theorem ed_lcL {ds : List PyData} {j : Nat} (ft : PyData → Bool) (g : PyData → PyData) (h : ED K f s tl δ (Is s (.dat (.list ds)))) (hl : ds.length ≤ 90000)
    (ht : ∀ d, d ∈ ds → ∀ s', ET K f s' tt ((wipeE δ [j]).set j (.dat d)) (Is s' (ft d))) (he : ∀ d, d ∈ ds → ft d = true → ∀ s', ED K f s' te ((wipeE δ [j]).set j (.dat d)) (Is s' (.dat (g d)))) :
    ED K f s (tLc (iList K tl) (gName j) tt te [j]) δ (Is s (.dat (.list ((ds.filter ft).map g)))) := fun G H σ Q a b c =>
  h G H σ _ a b fun v x s1 G1 H1 e1 j1 o1 p1 => by
    obtain ⟨rfl, rfl⟩ := p1
    cases o1 with
    | lst sq al =>
      rename_i ad xs
      refine ⟨ad, rfl, ⟨xs, ex_l j1.ex sq⟩, fun Dl hD => lc_list (xs := xs) (fun i => lcAt K f s1 G1 Dl (lcE ft g (ds.take i))) ⟨G1, Ex.refl G1, j1.ownNew hD .nil⟩ (fun i H' _ hp => ?_) (fun i y H' hy hp => ⟨wipe1, ?_⟩) (fun H' hp => ?_)⟩
      · obtain ⟨G', eg, jj⟩ := hp
        exact ex_l jj.ex (ex_l eg sq)
      · obtain ⟨d, hd', od⟩ := dpa_getV al hy
        exact lc_turn hl hd' hp (fun G' eg => Slots.set (SOk.of (show Ok K G' y (.dat d) from dpMono eg od)) j (Slots.wipe (Slots.mono (e1.trans eg) a) [j])) (ht d (List.mem_of_getElem? hd')) (he d (List.mem_of_getElem? hd'))
      · rw [dpa_len al, List.take_length] at hp
        exact lc_end e1 hp c
def rngD (n : Nat) : List PyData := (List.range n).map fun (i : Nat) => PyData.int (i : Int)
theorem rngD_len (n : Nat) : (rngD n).length = n := by unfold rngD; rw [List.length_map, List.length_range]
theorem rngD_get {n i : Nat} (h : i < n) : (rngD n)[i]? = some (.int (i : Int)) := by
  unfold rngD
  rw [List.getElem?_map, List.getElem?_range h]
  rfl
theorem ed_lcR {ta : TA} {n j : Nat} (ft : PyData → Bool) (g : PyData → PyData) (h : EA K f s ta δ (Is s [.dat (.int (n : Int))])) (hl : n ≤ 90000)
    (ht : ∀ d, d ∈ rngD n → ∀ s', ET K f s' tt ((wipeE δ [j]).set j (.dat d)) (Is s' (ft d))) (he : ∀ d, d ∈ rngD n → ft d = true → ∀ s', ED K f s' te ((wipeE δ [j]).set j (.dat d)) (Is s' (.dat (g d)))) :
    ED K f s (tLc (iRng1 ta) (gName j) tt te [j]) δ (Is s (.dat (.list (((rngD n).filter ft).map g)))) := fun G H σ Q a b c =>
  h G H σ _ a b fun v x s1 G1 H1 e1 j1 o1 p1 => by
    obtain ⟨rfl, rfl⟩ := p1
    cases o1 with
    | cons o1 o2 =>
      cases o2
      cases o1
      refine ⟨n, rfl, by omega, by omega, fun Dl hD => lc_range (lo := 0) (n := ((n : Int)).toNat) (fun i => lcAt K f s1 G1 Dl (lcE ft g ((rngD n).take i))) ⟨G1, Ex.refl G1, j1.ownNew hD .nil⟩ (fun i H' hi hp => ?_) (fun H' hp => ?_)⟩
      · have e0 : (0 : Int) + (i : Int) = (i : Int) := Int.zero_add _
        have hd' := rngD_get (n := n) (i := i) (by omega)
        have q := lc_turn (σ2 := (wipe σ [j]).set j (some (.int (i : Int)))) (tt := tt) (te := te) (by rw [rngD_len]; exact hl) hd' hp (fun G' eg => Slots.set (SOk.of (show Ok K G' (.int (i : Int)) (.dat (.int (i : Int))) from .int _)) j (Slots.wipe (Slots.mono (e1.trans eg) a) [j])) (ht _ (List.mem_of_getElem? hd')) (he _ (List.mem_of_getElem? hd'))
        show wipe ((wipe σ [j]).set j (some (.int ((0 : Int) + (i : Int))))) [j] = wipe σ [j] ∧ tt ((wipe σ [j]).set j (some (.int ((0 : Int) + (i : Int))))) H' _
        rw [e0]
        exact ⟨wipe1, q⟩
      · rw [Int.toNat_natCast, List.take_of_length_le (by rw [rngD_len]; exact Nat.le_refl _)] at hp
        exact lc_end e1 hp c
theorem et_yes : ET K f s tYes δ (Is s true) := fun G H σ Q a b c => c true s G H (Ex.refl G) b ⟨rfl, rfl⟩
theorem filter_all (ds : List PyData) : ds.filter (fun _ => true) = ds := by simp
/-- without a test -/
theorem ed_lcT1 {ds : List PyData} {j : Nat} (g : PyData → PyData) (h : ED K f s tl δ (Is s (.dat (.tuple ds)))) (hl : ds.length ≤ 90000)
    (he : ∀ d, d ∈ ds → ∀ s', ED K f s' te ((wipeE δ [j]).set j (.dat d)) (Is s' (.dat (g d)))) : ED K f s (tLc (iTup K tl) (gName j) tYes te [j]) δ (Is s (.dat (.list (ds.map g)))) := by
  have q := ed_lcT (tt := tYes) (te := te) (j := j) (fun _ => true) g h hl (fun _ _ _ => et_yes) (fun d m _ => he d m)
  rw [filter_all] at q
  exact q
theorem ed_lcL1 {ds : List PyData} {j : Nat} (g : PyData → PyData) (h : ED K f s tl δ (Is s (.dat (.list ds)))) (hl : ds.length ≤ 90000)
    (he : ∀ d, d ∈ ds → ∀ s', ED K f s' te ((wipeE δ [j]).set j (.dat d)) (Is s' (.dat (g d)))) : ED K f s (tLc (iList K tl) (gName j) tYes te [j]) δ (Is s (.dat (.list (ds.map g)))) := by
  have q := ed_lcL (tt := tYes) (te := te) (j := j) (fun _ => true) g h hl (fun _ _ _ => et_yes) (fun d m _ => he d m)
  rw [filter_all] at q
  exact q
theorem ed_lcR1 {ta : TA} {n j : Nat} (g : PyData → PyData) (h : EA K f s ta δ (Is s [.dat (.int (n : Int))])) (hl : n ≤ 90000)
    (he : ∀ d, d ∈ rngD n → ∀ s', ED K f s' te ((wipeE δ [j]).set j (.dat d)) (Is s' (.dat (g d)))) : ED K f s (tLc (iRng1 ta) (gName j) tYes te [j]) δ (Is s (.dat (.list ((rngD n).map g)))) := by
  have q := ed_lcR (tt := tYes) (te := te) (j := j) (fun _ => true) g h hl (fun _ _ _ => et_yes) (fun d m _ => he d m)
  rw [filter_all] at q
  exact q
/-! ### defs of data alone -/
def spP (K : PySem.W.Frag) (A : List En → Prop) (R : List En → En → Prop) : Sp := fun vs H Q _ => ∃ G es, Ex G H ∧ TF G ∧ Vs K G vs es ∧ A es ∧ ∀ v x G2 H2, Ex G G2 → Ex G2 H2 → Ex H H2 → (∀ b, G2 b ≠ none → G b = none → H b = none) → TF G2 → Ok K G2 v x → R es x → Q v H2
theorem sp_use {A : List En → Prop} {R : List En → En → Prop} {G H : Hp} {vs : List V} {es : List En} {Q : VK} {E : XK} {s : Sx} {P : Sx → En → Prop} (jj : J K f s G H) (v : Vs K G vs es) (a : A es) (i : ∀ x, R es x → P s x)
    (k : ∀ w z s' G2 H2, Ex G G2 → J K f s' G2 H2 → Ok K G2 w z → P s' z → Q w H2) : spP K A R vs H Q E :=
  ⟨G, es, jj.ex, jj.tf, v, a, fun w x G2 H2 e1 e2 e3 fr t2 o r => k w x s G2 H2 e1 (jj.pure e1 e2 e3 fr t2) o (i x r)⟩
theorem ed_call {A : List En → Prop} {R : List En → En → Prop} {E : XK} {t : TA} {es : List En} {P : Sx → En → Prop} (h : EA K f s t δ (Is s es)) (a : A es) (i : ∀ x, R es x → P s x) : ED K f s (tCall (spP K A R) [] E t) δ P := fun G H σ Q sl b c =>
  h G H σ _ sl b fun vs xs s1 G1 H1 e1 j1 o1 p1 => by
    obtain ⟨rfl, rfl⟩ := p1
    rw [List.append_nil]
    exact sp_use j1 o1 a i fun w z s3 G3 H3 e3 j3 o3 p3 => c w z s3 G3 H3 (e1.trans e3) j3 o3 p3
/-- a def that tells just one thing of what is handed in -/
def fn1 (F : List En → En) : List En → En → Prop := fun es x => x = F es
theorem ed_call1 {A : List En → Prop} {F : List En → En} {E : XK} {t : TA} {es : List En} (h : EA K f s t δ (Is s es)) (a : A es) : ED K f s (tCall (spP K A (fn1 F)) [] E t) δ (Is s (F es)) := ed_call h a fun x r => ⟨rfl, r⟩
/-- .. by keywords: gE tells the order -/
theorem ed_callK {A : List En → Prop} {R : List En → En → Prop} {E : XK} {t tk : TA} {gV : List V → List V → List V} {es fs : List En} {P : Sx → En → Prop} (h : EA K f s t δ (Is s es)) (hk : EA K f s tk δ (Is s fs)) (gs : List En)
    (hg : ∀ G vs zs, Vs K G vs es → Vs K G zs fs → Vs K G (gV vs zs) gs) (a : A gs) (i : ∀ x, R gs x → P s x) : ED K f s (tCallK (spP K A R) gV E t tk) δ P := fun G H σ Q sl b c =>
  h G H σ _ sl b fun vs xs s1 G1 H1 e1 j1 o1 p1 => by
    obtain ⟨rfl, rfl⟩ := p1
    refine hk G1 H1 σ _ (Slots.mono e1 sl) j1 fun zs ys s2 G2 H2 e2 j2 o2 p2 => ?_
    obtain ⟨rfl, rfl⟩ := p2
    exact sp_use j2 (hg G2 vs zs (Vs.mono e2 o1) o2) a i fun w z s3 G3 H3 e3 j3 o3 p3 => c w z s3 G3 H3 ((e1.trans e2).trans e3) j3 o3 p3
theorem run_pure {A : List En → Prop} {R : List En → En → Prop} {N : List Str} {vs : List V} {H : Hp} {Q : VK} {E : XK} (h : spP K A R vs H Q E)
    (hb : ∀ f s es, A es → SD K f s t (es ++ List.replicate (N.length - es.length) .no) ⟨fun _ _ => R es (.dat .none), fun _ x => R es x, fun _ _ => False, fun _ _ => False⟩) : t { nx := fun _ H' => Q .non H', rt := Q } (start N vs) H := by
  obtain ⟨G, es, e, tf, v, a, k⟩ := h
  have jj : J K ⟨none, H, G⟩ ⟨0, []⟩ G H := ⟨e, (fun D es m => by cases m), List.nodup_nil, (fun p c z => by cases z), fun b o _ z => z, Ex.refl G, fun b h1 h2 => absurd h2 h1, tf⟩
  have np : ∀ b, ¬ isPu (⟨none, H, G⟩ : Fx) b := fun b ⟨p, c, z, _⟩ => by cases z
  have sl : Slots K G (start N vs) (es ++ List.replicate (N.length - es.length) .no) := by
    unfold L2.start
    rw [v.len]
    exact Slots.start v _
  refine hb ⟨none, H, G⟩ ⟨0, []⟩ es a G H _ _ sl jj ⟨fun σ δ s' G2 H2 e2 j2 _ r => ?_, fun w x s' G2 H2 e2 j2 o r => ?_, fun _ _ _ _ _ _ _ _ z => z.elim, fun _ _ _ _ _ _ _ _ z => z.elim⟩
  · exact k .non (.dat .none) G2 H2 e2 j2.ex (fun b o z => j2.fr b o (np b) z) j2.fs j2.tf .non r
  · exact k w x G2 H2 e2 j2.ex (fun b o z => j2.fr b o (np b) z) j2.fs j2.tf o r
theorem spP_len {A : List En → Prop} {R : List En → En → Prop} {n : Nat} (hA : ∀ es, A es → es.length = n) (vs : List V) (H : Hp) (Q : VK) (E : XK) (h : spP K A R vs H Q E) : vs.length = n := by
  obtain ⟨G, es, _, _, v, a, _⟩ := h
  rw [v.len, hA es a]
theorem TF.only {H : Hp} (h : Only H) : TF H := fun b => by
  rcases h b with e | ⟨o, xs, e⟩
  · exact ⟨fun xs z => by (rw [e] at z; cases z), fun o xs z => by (rw [e] at z; cases z)⟩
  · exact ⟨fun xs z => by (rw [e] at z; cases z), fun o xs z => by (rw [e] at z; cases z)⟩
/-! ### draws -/
def spDraw : Sp := fun vs H Q _ => ∃ (p c : Addr) (n : Nat) (m : Int), vs = [.ref p, .int m] ∧ PurseAt H p c (n + 1) ∧ 1 ≤ m ∧ m ≤ 2 ^ 4000 ∧
  ∀ (r : Int) H', 0 ≤ r → r < m → PurseAt H' p c n → (∀ b o, b ≠ p → b ≠ c → H b = some o → H' b = some o) → Q (.int r) H'
def Drawn (n : Nat) (w : List (Addr × List En)) (m : Int) : Sx → En → Prop := fun s' x => s' = ⟨n, w⟩ ∧ ∃ r : Int, 0 ≤ r ∧ r < m ∧ x = .dat (.int r)
theorem ed_draw {n : Nat} {w : List (Addr × List En)} {p c : Addr} {i : Nat} {m : Int} {E : XK} (hf : f.pu = some (p, c)) (hi : δ[i]? = some (.val (.ref p))) (h : ED K f ⟨n + 1, w⟩ te δ (Is ⟨n + 1, w⟩ (.dat (.int m)))) (h1 : 1 ≤ m) (h2 : m ≤ 2 ^ 4000) :
    ED K f ⟨n + 1, w⟩ (tCall spDraw [] E (tCons (tVar i) (tCons te tNil))) δ (Drawn n w m) := fun G H σ Q sl b k =>
  (ea_cons (ed_var hi) (ea_cons h ea_nil)) G H σ _ sl b fun vs xs s1 G1 H1 e1 j1 o1 p1 => by
    obtain ⟨rfl, rfl⟩ := p1
    cases o1 with
    | cons o1 o2 =>
      cases o2 with
      | cons o2 o3 =>
        cases o3
        cases (show _ = V.ref p from o1)
        cases o2
        refine ⟨p, c, n, m, rfl, (j1.pu p c hf).2.2.2.2, h1, h2, fun r H' r0 r1 u kp => ?_⟩
        exact k _ (.dat (.int r)) _ G1 H' e1 (j1.draw hf kp u) (.int r) ⟨rfl, r, r0, r1, rfl⟩
/-- the law's own start: the purse is made -/
def spPurse (K : PySem.W.Frag) : Sp := fun vs H Q _ => ∃ (a : Addr) (ns : List Int), vs = [.ref a] ∧ SqL K H a (ns.map V.int) ∧ ns.length ≤ 63 ∧
  ∀ p c H', H p = none → H c = none → p ≠ c → Ex H H' → PurseAt H' p c (2 ^ 60) → Q (.ref p) H'
theorem run_law {N : List Str} {a : Addr} {ns : List Int} {H : Hp} {Q : VK} {E : XK} {n : Nat} (hS : SqL K H a (ns.map V.int)) (hT : TF H) (hl : ns.length ≤ 63) (hN : N.length = n + 2)
    (hb : ∀ f p c, f.pu = some (p, c) → SD K f ⟨2 ^ 60, []⟩ t (.no :: .val (.ref p) :: List.replicate n .no) ⟨fun _ _ => False, fun _ x => x = .dat (.bool true), fun _ _ => False, fun _ _ => False⟩) (hQ : ∀ H', Q (.bl true) H') :
    (tSeq (tAsg (tCall (spPurse K) [] E (tCons (tVar 0) tNil)) (gName 1)) t) { nx := fun _ H' => Q .non H', rt := Q } (start N [.ref a]) H := by
  unfold L2.start
  rw [hN]
  refine ⟨.ref a, rfl, a, ns, rfl, hS, hl, fun p c H1 hp hc hne e1 pu => ?_⟩
  have j1 : J K ⟨some (p, c), H1, H⟩ ⟨2 ^ 60, []⟩ H H1 := ⟨e1, (fun D es m => by cases m), List.nodup_nil, (fun p' c' z => by
      cases z
      obtain ⟨cs, t, x, y, _⟩ := pu.ex
      exact ⟨hp, hc, (by show H1 p ≠ none; rw [x]; simp), (by show H1 c ≠ none; rw [y]; simp), pu⟩), fun b o _ z => z, Ex.refl H, fun b h1 h2 => absurd h2 h1, hT⟩
  refine hb ⟨some (p, c), H1, H⟩ p c rfl H H1 _ _ ?_ j1 ⟨fun _ _ _ _ _ _ _ _ z => z.elim, fun v x s' G2 H2 _ _ o z => ?_, fun _ _ _ _ _ _ _ _ z => z.elim, fun _ _ _ _ _ _ _ _ z => z.elim⟩
  · show Slots K H (some (.ref a) :: some (.ref p) :: List.replicate n none) _
    refine .cons trivial (.cons rfl ?_)
    clear hN hb
    induction n with
    | zero => exact .nil
    | succ n ih => exact .cons trivial ih
  · subst z
    cases o
    exact hQ H2
end
end Dl

namespace Dl
open PySem L2 Evl
def CPowX (i j : Int) : Prop := 0 ≤ j ∧ (Builtin.Int.intBits i : Int) * j ≤ 2 ^ 27
theorem op_powX {X : Cx} : OpR X (binaryOp .Pow) (rI CPowX fun i j => .int (i ^ j.toNat)) := opI fun _ _ _ _ _ _ _ hc q => PyProof.Rows.pow_int hc.1 hc.2 q
theorem dpa_of_ints {K : PySem.W.Frag} {G : Hp} : ∀ ns : List Int, DpAll K G (ns.map V.int) (ns.map .int)
  | [] => .nil
  | n :: ns => .cons (.int n) (dpa_of_ints ns)
theorem lay_ints : ∀ ns : List Int, PyData.canLayAll0 (ns.map .int) = true
  | [] => by simp [PyData.canLayAll0]
  | n :: ns => by simp [PyData.canLayAll0, PyData.canLay0, lay_ints ns]
theorem depth_ints : ∀ ns : List Int, PyData.depthAll (ns.map .int) ≤ 1
  | [] => by simp [PyData.depthAll]
  | n :: ns => by
    have := depth_ints ns
    simp [PyData.depthAll, PyData.depth] at this ⊢
    omega
theorem shaped_ints (ns : List Int) : SeqAt.shaped (.list (ns.map .int)) = true := by
  have := depth_ints ns
  unfold SeqAt.shaped
  rw [Bool.and_eq_true, decide_eq_true_eq]
  refine ⟨?_, ?_⟩
  · simp [PyData.canLay0, lay_ints ns]
  · simp only [PyData.depth]
    omega
theorem shaped_tints (ns : List Int) : SeqAt.shaped (.tuple (ns.map .int)) = true := by
  have := depth_ints ns
  unfold SeqAt.shaped
  rw [Bool.and_eq_true, decide_eq_true_eq]
  refine ⟨?_, ?_⟩
  · simp [PyData.canLay0, lay_ints ns]
  · simp only [PyData.depth]
    omega
end Dl

namespace Dl
open PySem L2 Evl
/-! ### a table of the module whose keys are tuples of ints -/
def intsOf : List Value → Option (List Int)
  | [] => some []
  | .int i _ :: r => (intsOf r).map (i :: ·)
  | _ :: _ => none
theorem intsOf_vals : ∀ {vs : List Value} {ns : List Int}, intsOf vs = some ns → Vals (ns.map V.int) vs
  | [], _, e => by cases e; exact .nil
  | .int i t :: r, ns, e => by
    cases h : intsOf r with
    | none => simp [intsOf, h] at e
    | some q =>
      simp only [intsOf, h, Option.map_some, Option.some.injEq] at e
      subst e
      exact .cons ⟨t, rfl⟩ (intsOf_vals h)
  | .none :: _, _, e => by simp [intsOf] at e
  | .bool _ :: _, _, e => by simp [intsOf] at e
  | .str _ _ :: _, _, e => by simp [intsOf] at e
  | .ref _ :: _, _, e => by simp [intsOf] at e
  | .type _ :: _, _, e => by simp [intsOf] at e
  | .builtin _ :: _, _, e => by simp [intsOf] at e
  | .float _ _ :: _, _, e => by simp [intsOf] at e
  | .bytes _ _ :: _, _, e => by simp [intsOf] at e
  | .ellipsis :: _, _, e => by simp [intsOf] at e
  | .notImplemented :: _, _, e => by simp [intsOf] at e
theorem items_of_vals {P : Program} {w : World} : ∀ {ns : List Int} {vs : List Value}, Vals (ns.map V.int) vs → ItemsAre (intKind P w) ns vs
  | [], _, h => by cases h; exact .nil
  | n :: ns, _, h => by
    cases h with
    | cons a b =>
      obtain ⟨t, rfl⟩ := a
      exact .cons (by simp [intKind, Value.isInt]) (items_of_vals b)
def isStrVal (v : Value) (x : Str) : Bool := match v with
  | .str y _ => y == x
  | _ => false
/-- a tuple of ints of the written part -/
def tupInK (K : PySem.W.Frag) (a : Addr) (ns : List Int) : Bool := match K.lookup a with
  | some o => (match o.cls with | .type n => n == "tuple" | _ => false) && (match o.data with | .seq its _ => (intsOf its.toList == some ns) && decide (its.size ≤ 1000) | _ => false)
  | none => false
theorem tupInK_sq {K : PySem.W.Frag} {a : Addr} {ns : List Int} (h : tupInK K a ns = true) (H : Hp) : SqT K H a (ns.map V.int) := by
  unfold tupInK at h
  split at h
  · rename_i o e
    obtain ⟨h1, h2⟩ := Bool.and_eq_true_iff.mp h
    split at h1
    · rename_i n hc
      split at h2
      · rename_i its m hd
        obtain ⟨h3, h4⟩ := Bool.and_eq_true_iff.mp h2
        refine .inr ⟨o, its, m, e, by rw [hc, beq_iff_eq.mp h1], hd, Nat.le_trans (of_decide_eq_true h4) (by decide), intsOf_vals (beq_iff_eq.mp h3)⟩
      · cases h2
    · cases h1
  · cases h
theorem dpT {K : PySem.W.Frag} {a : Addr} {ns : List Int} (h : tupInK K a ns = true) (G : Hp) : Dp K G (.ref a) (.tuple (ns.map .int)) := .tup (tupInK_sq h G) (dpa_of_ints ns)
def entOk (K : PySem.W.Frag) (e : DictEntry) (y : List Int × Str) : Bool := match e.key with
  | .ref a => isStrVal e.val y.2 && (e.hash == reduceHash (Builtin.Tuple.tupleHashOf (y.1.map hashInt))) && tupInK K a y.1
  | _ => false
def tabAll (K : PySem.W.Frag) : List DictEntry → List (List Int × Str) → Bool
  | [], [] => true
  | e :: es, y :: ys => entOk K e y && tabAll K es ys
  | _, _ => false
def tabOk (K : PySem.W.Frag) (d : Addr) (tab : List (List Int × Str)) : Bool := match K.lookup d with
  | some o => (match o.cls with | .type n => n == "dict" | _ => false) && o.dict.isNone && o.slots.isEmpty && (match o.data with | .dict es _ => tabAll K es.toList tab | _ => false) && decide (tab.length ≤ 1000) && (d != sysModules)
  | none => false
def TabRel (K : PySem.W.Frag) (x : List Int × Addr × Value) (y : List Int × Str) : Prop := x.1 = y.1 ∧ (∃ t, x.2.2 = .str y.2 t) ∧ tupInK K x.2.1 y.1 = true
theorem tabAll_rel {K : PySem.W.Frag} {P : Program} {w : World} : ∀ {es : List DictEntry} {tab : List (List Int × Str)}, tabAll K es tab = true → ∃ xs, es = xs.map (entryOfKey (tupleKind (intKind P w))) ∧ Paired (TabRel K) xs tab
  | [], [], _ => ⟨[], rfl, .nil⟩
  | e :: es, y :: ys, h => by
    obtain ⟨h1, h2⟩ := Bool.and_eq_true_iff.mp h
    obtain ⟨xs, e1, r⟩ := tabAll_rel (P := P) (w := w) h2
    unfold entOk at h1
    split at h1
    · rename_i a ha
      obtain ⟨h3, h5⟩ := Bool.and_eq_true_iff.mp h1
      obtain ⟨h3, h4⟩ := Bool.and_eq_true_iff.mp h3
      refine ⟨(y.1, a, e.val) :: xs, ?_, .cons ⟨rfl, ?_, h5⟩ r⟩
      · rw [List.map_cons, e1]
        congr 1
        unfold entryOfKey
        cases e
        simp only at ha h4 ⊢
        subst ha
        rw [beq_iff_eq.mp h4]
        rfl
      · unfold isStrVal at h3
        split at h3
        · rename_i x t hv
          exact ⟨t, by rw [show e.val = _ from hv, beq_iff_eq.mp h3]⟩
        · cases h3
    · cases h1
  | [], _ :: _, h => by cases h
  | _ :: _, [], h => by cases h
theorem rel_keys {K : PySem.W.Frag} : ∀ {xs : List (List Int × Addr × Value)} {tab : List (List Int × Str)}, Paired (TabRel K) xs tab → xs.map (·.1) = tab.map (·.1)
  | _, _, .nil => rfl
  | _, _, .cons h t => by rw [List.map_cons, List.map_cons, rel_keys t, h.1]
theorem rel_at {K : PySem.W.Frag} {k : List Int} : ∀ {xs : List (List Int × Addr × Value)} {tab : List (List Int × Str)}, Paired (TabRel K) xs tab →
    match tab.find? (fun y => decide (y.1 = k)) with
    | some y => ∃ a t, atKey xs k = some (a, .str y.2 t)
    | none => atKey xs k = none
  | _, _, .nil => rfl
  | x :: xs, y :: ys, .cons h t => by
    have ih := rel_at (k := k) t
    obtain ⟨h1, ⟨tk, h2⟩, _⟩ := h
    by_cases hk : y.1 = k
    · rw [List.find?_cons_of_pos (by simpa using hk)]
      refine ⟨x.2.1, tk, ?_⟩
      unfold atKey
      rw [List.find?_cons_of_pos (by simp [h1, hk])]
      show some (x.2.1, x.2.2) = _
      rw [h2]
    · rw [List.find?_cons_of_neg (by simpa using hk)]
      have e : atKey (x :: xs) k = atKey xs k := by
        unfold atKey
        rw [List.find?_cons_of_neg (by simp [h1, hk])]
      rw [e]
      exact ih
structure Tab (K : PySem.W.Frag) (d : Addr) (tab : List (List Int × Str)) : Prop where
  ok : tabOk K d tab = true
  nd : (tab.map (·.1)).Nodup
theorem Tab.dict {K : PySem.W.Frag} {d : Addr} {tab : List (List Int × Str)} (T : Tab K d tab) {h : Heap} (X : K.In h) (P : Program) (w : World) :
    ∃ xs o es ep, h.get? d = some o ∧ o.ExactDict ∧ o.data = .dict es ep ∧ es.toList = xs.map (entryOfKey (tupleKind (intKind P w))) ∧ h.DictOfH (tupleKind (intKind P w)) d xs ∧ Paired (TabRel K) xs tab ∧ (d == sysModules) = false ∧ tab.length ≤ 1000 := by
  have t := T.ok
  unfold tabOk at t
  split at t
  · rename_i o e
    obtain ⟨t, h6⟩ := Bool.and_eq_true_iff.mp t
    obtain ⟨t, h5⟩ := Bool.and_eq_true_iff.mp t
    obtain ⟨t, h4⟩ := Bool.and_eq_true_iff.mp t
    obtain ⟨t, h3⟩ := Bool.and_eq_true_iff.mp t
    obtain ⟨h1, h2⟩ := Bool.and_eq_true_iff.mp t
    split at h1
    · rename_i n hc
      split at h4
      · rename_i es ep hd
        obtain ⟨xs, e1, r⟩ := tabAll_rel (P := P) (w := w) h4
        have ho := X _ _ e
        have hx : o.ExactDict := ⟨by rw [hc, beq_iff_eq.mp h1], by simpa using h2, by simpa using h3⟩
        refine ⟨xs, o, es, ep, ho, hx, hd, e1, ⟨o, es, ep, ho, hx, hd, e1, fun x hm => ?_, by rw [rel_keys r]; exact T.nd⟩, r, by simpa using h6, of_decide_eq_true h5⟩
        have key : ∀ {xs : List (List Int × Addr × Value)} {tab : List (List Int × Str)}, Paired (TabRel K) xs tab → ∀ x ∈ xs, tupInK K x.2.1 x.1 = true := by
          intro xs tab r
          induction r with
          | nil => intro x hx; cases hx
          | cons a _ ih =>
            intro x hx
            rcases List.mem_cons.mp hx with rfl | hx
            · rw [a.1]; exact a.2.2
            · exact ih x hx
        have q := key r x hm
        unfold tupInK at q
        split at q
        · rename_i o2 e2
          obtain ⟨q1, q2⟩ := Bool.and_eq_true_iff.mp q
          split at q1
          · rename_i n2 hc2
            split at q2
            · rename_i its m hd2
              exact ⟨o2, its, m, X _ _ e2, by rw [hc2, beq_iff_eq.mp q1], hd2, items_of_vals (intsOf_vals (beq_iff_eq.mp (Bool.and_eq_true_iff.mp q2).1))⟩
            · cases q2
          · cases q1
        · cases q
      · cases h4
    · cases h1
  · cases t
section
variable {X : Cx} {d : Addr} {tab : List (List Int × Str)}
def rInW (K : PySem.W.Frag) (d : Addr) (tab : List (List Int × Str)) : R2 := fun x y H Q => ∃ a ns, x = .ref a ∧ y = .ref d ∧ SqT K H a (ns.map V.int) ∧ Q (.bl (tab.find? (fun y => decide (y.1 = ns))).isSome) H
theorem key_of {pins : List (Addr × Obj)} {σ : St} {H : Hp} {s : Shared} {a : Addr} {ns : List Int} (I : Inv X pins σ H s) (h : SqT X.K H a (ns.map V.int)) : (tupleKind (intKind X.prog X.w)).is s.heap ns a := by
  obtain ⟨its, r, ⟨o, e, c, n, d⟩, _⟩ := I.tuple h
  exact ⟨o, its.toArray, n, e, c, d, items_of_vals (by simpa using r)⟩
theorem op_inW (hu : X.A.units + 64 < cLine) (T : Tab X.K d tab) : OpR X (compareOp .In) (rInW X.K d tab) := by
  intro pins s σ H x y v u Q I rx ry h
  obtain ⟨a, ns, rfl, rfl, hs, q⟩ := h
  cases rx; cases ry
  obtain ⟨xs, o, es, ep, ho, hx, hd, he, hm, r, hsys, _⟩ := T.dict I.kIn X.prog X.w
  refine wpAny_in_heap (knd := tupleKind (intKind X.prog X.w)) (show X.A.in1.units < cLine by show X.A.units + 1 < cLine; omega) (key_of I hs) hsys hm ?_
  have ra := rel_at (k := ns) r
  cases hf : tab.find? (fun y => decide (y.1 = ns)) with
  | none =>
    rw [hf] at ra q
    rw [ra]
    exact ⟨.bl false, H, I.tok _, rfl, q⟩
  | some y =>
    rw [hf] at ra q
    obtain ⟨b, t, e⟩ := ra
    rw [e]
    exact ⟨.bl true, H, I.tok _, rfl, q⟩
def rGetW (K : PySem.W.Frag) (d : Addr) (tab : List (List Int × Str)) : R2 := fun x y H Q => ∃ a ns z, y = .ref a ∧ x = .ref d ∧ SqT K H a (ns.map V.int) ∧ tab.find? (fun y => decide (y.1 = ns)) = some z ∧ Q (.str z.2) H
theorem op_getW (hu : X.A.units + 64 < cLine) (T : Tab X.K d tab) : OpR X getItem (rGetW X.K d tab) := by
  intro pins s σ H x y v u Q I rx ry h
  obtain ⟨a, ns, z, rfl, rfl, hs, hz, q⟩ := h
  cases rx; cases ry
  obtain ⟨xs, o, es, ep, ho, hx, hd, he, hm, r, hsys, _⟩ := T.dict I.kIn X.prog X.w
  have ra := rel_at (k := ns) r
  rw [hz] at ra
  obtain ⟨b, t, e⟩ := ra
  exact wpAny_getItem_heap (knd := tupleKind (intKind X.prog X.w)) (show X.A.in1.units < cLine by show X.A.units + 1 < cLine; omega) (key_of I hs) hm e ⟨.str z.2, H, I.tok _, ⟨t, rfl⟩, q⟩
/-- list(table) -/
def rListW (K : PySem.W.Frag) (d : Addr) (tab : List (List Int × Str)) : List V → Hp → VK → Prop := fun xs H Q => xs = [V.ref d] ∧ ∀ p bs, H p = none → Paired (fun b (y : List Int × Str) => tupInK K b y.1 = true) bs tab → Q (.ref p) (upd H p (.lst (bs.map V.ref)))
theorem call_listW (hc : X.calm = true) (T : Tab X.K d tab) : CallR X (.type "list") (rListW X.K d tab) := by
  intro pins s σ H xs us Q I r h
  obtain ⟨rfl, q⟩ := h
  obtain ⟨u, rfl, rx⟩ := r.one
  cases rx
  obtain ⟨ks, o, es, ep, ho, hx, hdt, he, hm, pr, hs, hlen⟩ := T.dict I.kIn X.prog X.w
  have l1 : es.size = ks.length := size_of_entries he
  have l2 : ks.length = tab.length := Paired.length pr
  refine PySem.W.kdl_call (kdl_raw hs hx hdt) (I.ok.hd hc) ho (by rw [l1, l2]; exact Nat.le_trans hlen (by decide)) fun h' tk acc' c' kp e it => ?_
  have ea : acc'.toList = ks.map fun x => Value.ref x.2.1 := by
    have hl : acc'.toList.length = ks.length := by rw [Array.length_toList, it.1]; exact l1
    apply List.ext_getElem?
    intro j
    rw [List.getElem?_map]
    cases hj : acc'.toList[j]? with
    | none =>
      have h1 := List.getElem?_eq_none_iff.mp hj
      rw [List.getElem?_eq_none (by omega)]
      all_goals rfl
    | some v =>
      obtain ⟨en, hen, hv⟩ := it.2 j v (by rw [← Array.getElem?_toList]; exact hj)
      have qe := entry_at he j
      rw [hen] at qe
      cases hb : ks[j]? with
      | none =>
        rw [hb] at qe
        exact nomatch (show some en = none from qe)
      | some b =>
        rw [hb] at qe
        have e2 : en = entryOfKey (tupleKind (intKind X.prog X.w)) b := Option.some.inj qe
        rw [hv, e2]
        all_goals rfl
  have eb : acc'.toList = (ks.map fun x => x.2.1).map Value.ref := by rw [ea, List.map_map]; all_goals rfl
  have rv : Vals ((ks.map fun x => x.2.1).map V.ref) acc'.toList := by rw [eb]; exact vals_refs _
  have hz : ((ks.map fun x => x.2.1).map V.ref).length ≤ sizeLine := by rw [List.length_map, List.length_map, l2]; exact Nat.le_trans hlen (by decide)
  have pb : ∀ {ks : List (List Int × Addr × Value)} {tab : List (List Int × Str)}, Paired (TabRel X.K) ks tab → Paired (fun b (y : List Int × Str) => tupInK X.K b y.1 = true) (ks.map fun x => x.2.1) tab := by
    intro ks tab r
    induction r with
    | nil => exact .nil
    | cons a _ ih => exact .cons a.2.2 ih
  refine ⟨.ref s.heap.objs.size, _, I.laid (t' := tk) (o := .lst ((ks.map fun x => x.2.1).map V.ref)) kp (Nat.le_refl _) ?_, rfl, q _ _ (I.hok.fresh (Nat.le_refl _)) (pb pr)⟩
  exact ⟨hz, acc'.toList, c', rv, by rw [Array.toArray_toList]; exact e⟩
end
section
variable {K : PySem.W.Frag} {f : Fx} {s : Sx} {d : Addr} {tab : List (List Int × Str)}
theorem dp_tints {G : Hp} {v : V} {ns : List Int} (h : Dp K G v (.tuple (ns.map .int))) : ∃ a, v = .ref a ∧ SqT K G a (ns.map V.int) := by
  cases h with
  | tup sq al =>
    rw [dpa_ints al] at sq
    exact ⟨_, rfl, sq⟩
theorem od_inW {ns : List Int} : OD K f (rInW K d tab) s (.dat (.tuple (ns.map .int))) (.val (.ref d)) (Is s (.dat (.bool (tab.find? (fun y => decide (y.1 = ns))).isSome))) := fun G H v u Q jj a b c => by
  obtain ⟨ad, rfl, sq⟩ := dp_tints a
  cases (show u = V.ref d from b)
  exact ⟨ad, ns, rfl, rfl, ex_t jj.ex sq, fD c jj (.bl _)⟩
theorem od_getW {ns : List Int} {z : List Int × Str} (hz : tab.find? (fun y => decide (y.1 = ns)) = some z) : OD K f (rGetW K d tab) s (.val (.ref d)) (.dat (.tuple (ns.map .int))) (Is s (.dat (.str z.2))) := fun G H u v Q jj b a c => by
  obtain ⟨ad, rfl, sq⟩ := dp_tints a
  cases (show u = V.ref d from b)
  exact ⟨ad, ns, z, rfl, rfl, ex_t jj.ex sq, hz, fD c jj (.str _)⟩
theorem cd_listW : CD K f (rListW K d tab) s [.val (.ref d)] (Is s (.dat (.list (tab.map fun y => .tuple (y.1.map .int))))) := fun G H vs Q jj a k => by
  cases a with
  | cons h t =>
    cases t
    cases (show _ = V.ref d from h)
    refine ⟨rfl, fun p bs hp r => ?_⟩
    refine fL k jj ?_ hp
    clear k hp
    induction r with
    | nil => exact .nil
    | cons a _ ih => exact .cons (dpT a G) ih
theorem ed_cd {δ : List En} {v : V} {dd : PyData} (h : ∀ G, Dp K G v dd) : ED K f s (tC v) δ (Is s (.dat dd)) := fun G H σ Q a b c => fD c b (h G)
end
/-! ### tuple.index of data -/
def rIndexT (K : PySem.W.Frag) : V → List V → Hp → VK → Prop := fun x xs H Q => ∃ (a : Addr) (ns : List Int) (i : Int) (j : Nat), x = V.ref a ∧ xs = [.int i] ∧ SqT K H a (ns.map V.int) ∧ ns[j]? = some i ∧ (∀ m, m < j → ns[m]? ≠ some i) ∧ Q (.int (j : Nat)) H
theorem flat_ints (ys : List Int) : (ys.map V.int).all flatV = true := by
  rw [List.all_map]
  exact List.all_eq_true.mpr fun _ _ => rfl
theorem mt_indexT {X : Cx} : MtR X "tuple.index" (rIndexT X.K) := by
  intro pins s σ H x xs v us Q I rx rs h
  obtain ⟨p, ys, z, j, rfl, rfl, hq, hy, hno, q⟩ := h
  cases rx
  obtain ⟨u, rfl, t, rfl⟩ := vals1 rs
  obtain ⟨its, r, pl, hz⟩ := I.tuple hq
  obtain ⟨⟨cls, dd, dt, sl⟩, ho, hc, n, hd⟩ := pl
  simp only at hc hd
  subst hc
  subst hd
  have hl : its.toArray.size = ys.length := by rw [List.size_toArray, ← r.length, List.length_map]
  have hj : j < its.toArray.size := by rw [hl]; exact (List.getElem?_eq_some_iff.mp hy).1
  have at' : ∀ (m : Nat) (hm : m < its.toArray.size), ∃ y t', ys[m]? = some y ∧ its.toArray[m] = Value.int y t' := fun m hm => by
    have hm' : m < ys.length := by rw [← hl]; exact hm
    obtain ⟨w, hw, t', hw'⟩ := r.get (i := m) (x := .int ys[m]) (by simp [hm'])
    refine ⟨ys[m], t', List.getElem?_eq_getElem hm', ?_⟩
    have e := (List.getElem?_eq_some_iff.mp hw).2
    rw [← hw', ← e]
    simp
  refine call_meets PySem.F.slot_tuple_index ⟨_, ho, rfl⟩ PySem.F.entry_tuple_index (PySem.F.args_tuple_index_2 _ _) (TI.tuple_indexAt p its.toArray n dd sl (.int z t) (eqU (.int z)) j hj ?_ ?_)
    ⟨ho, fun w hw => mem_eqAt (x := .int z) ⟨t, rfl⟩ rfl r (flat_ints ys) w (by simpa using hw), ⟨.int (j : Nat), H, I.tok _, ⟨_, rfl⟩, q⟩⟩
  · obtain ⟨y, t', h1, h2⟩ := at' j hj
    rw [hy] at h1
    cases h1
    rw [h2]
    show (z == z) = true
    exact beq_self_eq_true z
  · intro m hm hmj
    obtain ⟨y, t', h1, h2⟩ := at' m hm
    rw [h2]
    show (y == z) = false
    refine beq_eq_false_iff_ne.mpr fun e => hno m hmj ?_
    rw [h1, e]
/-- the written part's tuples have no dict of their own -/
def KT (K : PySem.W.Frag) : Prop := ∀ a o, K.lookup a = some o → o.cls = .type "tuple" → o.dict = none
def ktOk (K : PySem.W.Frag) : Bool := K.all fun p => (match p.2.cls with | .type n => n != "tuple" | _ => true) || p.2.dict.isNone
theorem KT.of {K : PySem.W.Frag} (h : ktOk K = true) : KT K := fun a o e c => by
  have hm : (a, o) ∈ K := by
    clear h
    induction K with
    | nil => cases e
    | cons p r ih =>
      obtain ⟨b, x⟩ := p
      simp only [List.lookup] at e
      split at e
      · rename_i q
        cases e
        rw [beq_iff_eq.mp q]
        exact List.mem_cons_self ..
      · exact List.mem_cons_of_mem _ (ih e)
  have q := List.all_eq_true.mp h _ hm
  simp only [c] at q
  simpa using q
/-- a tuple's method -/
def tyT (K : PySem.W.Frag) (x : V) (H : Hp) : Prop := ∃ p, x = .ref p ∧ ((∃ o xs, H p = some (.frz o (.tup xs)) ∧ o.dict = none) ∨ ∃ o, K.lookup p = some o ∧ o.cls = .type "tuple" ∧ o.dict = none)
def tBMT (K : PySem.W.Frag) (r : V → List V → Hp → VK → Prop) (to : TE) (t : TA) : TE := fun σ H Q => to σ H fun x H1 => tyT K x H1 ∧ t σ H1 fun xs H2 => r x xs H2 Q
theorem pe_bmT {X : Cx} {name : Str} {id : String} {r : V → List V → Hp → VK → Prop} {o e : Expr} {es : List Expr} {to : TE} {t : TA} {apos cpos : Pos} (pa : PlainAttrs "tuple") (slot : Slot "tuple" name id) (hty : typeOf (.builtin id) = pure (.type "method_descriptor")) (hm : MtR X id r) (ho : PE X o to) (ha : PA X (e :: es) t)
    (hbase : attributeBase o name X.env (eval o X.env) = eval o X.env := by rfl)
    (hfew : ((backTo cpos (starEach (e :: es) X.env)).all (fun x => !x.1) && (backToKw cpos (keywordEach [] X.env)).all (fun x => x.1.isSome)
      && decide ((e :: es).length + ([] : List Keyword).length + (if ([] : List Keyword).isEmpty then 0 else 1) < 30)) = true := by rfl)
    (hline : (apos.endLine == cpos.line) = true := by rfl) (hs : starEach (e :: es) X.env = (false, eval e X.env) :: starEach es X.env := by rfl) (hplain : (backTo cpos (starEach es X.env)).any (·.1) = false := by rfl) :
    PE X (.Call (.Attribute o name apos) (e :: es) [] cpos) (tBMT X.K r to t) := by
  refine ⟨fun pins s σ H Q I h => ?_⟩
  refine wpAny_Call_method_late hbase hfew hline rfl (thn (ho.run pins s σ H _ I h) fun v s1 ⟨x, H1, I1, r1, ty, q1⟩ => ?_)
  have h12 : s1.TypeIs v "tuple" ∧ ∀ a, v = .ref a → ∃ ob, s1.heap.get? a = some ob ∧ ob.dict = none := by
    obtain ⟨p, rfl, ty⟩ := ty
    cases r1
    rcases ty with ⟨o, xs, e, d⟩ | ⟨o, e, c, d⟩
    · obtain ⟨g, z, its, rv, ⟨o2, g2, c2, _⟩⟩ := (show ObjOk X.prog X.w H1 s1.heap p (.frz o (.tup xs)) from I1.hok p _ e)
      rw [g] at g2
      cases g2
      exact ⟨⟨o, g, c2⟩, fun a ea => by cases ea; exact ⟨o, g, d⟩⟩
    · exact ⟨⟨o, I1.kIn _ _ e, c⟩, fun a ea => by cases ea; exact ⟨o, I1.kIn _ _ e, d⟩⟩
  obtain ⟨h1, h2⟩ := h12
  refine ⟨"tuple", id, pa, slot, hty, h1, h2, ?_⟩
  have hA := ha.run cpos pins s1 σ H1 _ I1 q1
  rw [hs] at hA ⊢
  refine Calls.callWith_builtin (by show (false || (backTo cpos (starEach es X.env)).any (·.1)) = false; rw [hplain] <;> rfl) (Calls.evalArgs_plain ?_)
  exact thn hA fun us s2 ⟨vs, H2, I2, r2, q2⟩ => hm pins s2 σ H2 x vs v us Q I2 r1 r2 q2
theorem tyT_of {K : PySem.W.Frag} {f : Fx} {s : Sx} {G H : Hp} (kt : KT K) (j : J K f s G H) {a : Addr} {xs : List V} (h : SqT K G a xs) : tyT K (.ref a) H := by
  rcases h with (e | ⟨o, e⟩) | ⟨o, its, n, e, c, _⟩
  · exact absurd e ((j.tf a).1 xs)
  · exact ⟨a, rfl, .inl ⟨o, xs, j.ex _ _ e, (j.tf a).2 o xs e⟩⟩
  · exact ⟨a, rfl, .inr ⟨o, e, c, kt a o e c⟩⟩
theorem ed_indexT {K : PySem.W.Frag} {f : Fx} {s : Sx} {δ : List En} {to te : TE} {ns : List Int} {i : Int} {j : Nat} (kt : KT K) (ho : ED K f s to δ (Is s (.dat (.tuple (ns.map .int))))) (he : ED K f s te δ (Is s (.dat (.int i)))) (h1 : ns[j]? = some i) (h2 : ∀ m, m < j → ns[m]? ≠ some i) :
    ED K f s (tBMT K (rIndexT K) to (tCons te tNil)) δ (Is s (.dat (.int (j : Nat)))) := fun G H σ Q sl b c =>
  ho G H σ _ sl b fun v x s1 G1 H1 e1 j1 o1 p1 => by
    obtain ⟨rfl, rfl⟩ := p1
    obtain ⟨ad, rfl, sq⟩ := dp_tints o1
    refine ⟨tyT_of kt j1 sq, he G1 H1 σ _ (Slots.mono e1 sl) j1 fun u y s2 G2 H2 e2 j2 o2 p2 => ?_⟩
    obtain ⟨rfl, rfl⟩ := p2
    cases o2
    exact ⟨ad, ns, i, j, rfl, rfl, ex_t j2.ex (ex_t e2 sq), h1, h2, c _ (.dat (.int (j : Nat))) _ G2 H2 (e1.trans e2) j2 (.int _) ⟨rfl, rfl⟩⟩
/-- f(k = v, ..), nothing by position -/
theorem pe_callK0 {X : Cx} {CX : CXT} {k : Nat} {f : Addr} {fd : FuncData} {ps ks : List Str} {sp : Sp} {x : Str} {p pos : Pos} {E : XK} {g : List Value → List Value → List Value} {gV : List V → List V → List V} {kws : List Keyword} {tk : TA}
    (F : FnOk X.prog X.w X.K X.mg X.base CX k f fd ps sp) (hr : Room k X.A) (hg : Gl X x) (hm : X.mg x = some (.ref f)) (hk : PySem.W.keepIn X.K (.ref f) = true) (hb : KBinds X.K fd ps ks g gV) (hx : Passes CX X E)
    (hkw : PK X kws tk) (hall : (backToKw pos (keywordEach kws X.env)).all (·.1.isSome) = true := by rfl) (hks : (backToKw pos (keywordEach kws X.env)).filterMap (·.1) = ks := by rfl)
    (hdb : (x == ("__debug__" : Str)) = false := by decide)
    (hpl : ((backTo pos (starEach [] X.env)).any (·.1) || (backToKw pos (keywordEach kws X.env)).any (·.1.isNone)) = false := by rfl) : PE X (.Call (.Name x p) [] kws pos) (tCallK sp gV E tNil tk) := by
  refine ⟨fun pins s σ H Q I h => ?_⟩
  refine wpAny_Call_Name_kw (ld_glob I hg hm ?_ hdb)
  refine PySem.W.callWith_KW0 (h₀ := X.base) I.ok.mod.kin hk hall (thn (hkw.run pos pins s σ H _ I h) fun ws s2 ⟨zs, H2, I2, rz, q2⟩ => ⟨I2.kIn, ?_⟩) hpl
  rw [hks]
  exact run_fnk (us := []) (vs := []) F hr hb hx I2 .nil rz q2
end Dl

namespace Dl
open PySem L2 Evl
/-! ### lists that are changed: the one on top -/
section
variable {K : PySem.W.Frag} {f : Fx} {s : Sx} {δ : List En} {ta tb te : TE} {tt tu : TT} {P R : Sx → En → Prop} {t u : TS} {p : Po} {n : Nat} {D : Addr} {es : List En} {r : List (Addr × List En)}
theorem sd_ownNew {i : Nat} {ta : TA} (h : EA K f s ta δ (Is s es)) (hl : es.length ≤ 100000) (k : ∀ D, SD K f ⟨s.n, (D, es) :: s.own⟩ u (δ.set i (.val (.ref D))) p) : SD K f s (tSeq (tAsg (tLst ta) (gName i)) u) δ p := fun G H σ Dd a b c =>
  h G H σ _ a b fun vs xs s1 G1 H1 e1 j1 o1 p1 => by
    obtain ⟨rfl, rfl⟩ := p1
    refine ⟨sz_of (by rw [o1.len]; exact hl), fun q hq => ?_⟩
    exact k q G1 (upd H1 q (.lst vs)) _ Dd (Slots.set (SOk.of (show Ok K G1 (.ref q) (.val (.ref q)) from rfl)) i (Slots.mono e1 a)) (j1.ownNew hq o1) (c.mono e1)
theorem own_dp {G H : Hp} {ds : List PyData} (j : J K f ⟨n, (D, ds.map .dat) :: r⟩ G H) : Dp K H (.ref D) (.list ds) := by
  obtain ⟨_, _, _, xs, e, v⟩ := j.own D _ (List.mem_cons_self ..)
  exact .lst (sq_of e) (dpaMono j.ex (Vs.dpa v))
theorem cd_lenOwn : CD K f (fun xs H Q => ∃ p ys, xs = [.ref p] ∧ (SqL K H p ys ∨ SqT K H p ys) ∧ Q (.int ys.length) H) ⟨n, (D, es) :: r⟩ [.val (.ref D)] (Is ⟨n, (D, es) :: r⟩ (.dat (.int es.length))) := fun G H vs Q jj a k => by
  cases a with
  | cons h t =>
    cases t
    cases (show _ = V.ref D from h)
    obtain ⟨_, _, _, xs, e, v⟩ := jj.own D _ (List.mem_cons_self ..)
    refine ⟨D, xs, rfl, .inl (sq_of e), ?_⟩
    rw [v.len]
    exact fD k jj (.int _)
theorem vs_at {G : Hp} {vs : List V} {es : List En} {i : Int} {x : En} (h : Vs K G vs es) (e : atI es i = some x) : ∃ v, atI vs i = some v ∧ Ok K G v x := by
  unfold atI at e ⊢
  rw [h.len]
  cases q : ixN es.length i with
  | none => rw [q] at e; cases e
  | some j =>
    rw [q] at e
    exact Vs.get h e
theorem od_ixOwn {i : Int} {x : En} (e : atI es i = some x) : OD K f (rIx K) ⟨n, (D, es) :: r⟩ (.val (.ref D)) (.dat (.int i)) (Is ⟨n, (D, es) :: r⟩ x) := fun G H v u Q jj a b k => by
  cases (show v = V.ref D from a)
  cases b
  obtain ⟨_, _, _, xs, e2, vv⟩ := jj.own D _ (List.mem_cons_self ..)
  obtain ⟨w, e1, o⟩ := vs_at vv e
  exact .inl ⟨_, _, i, w, rfl, rfl, sq_of e2, e1, k _ _ _ G H (Ex.refl G) jj o ⟨rfl, rfl⟩⟩
theorem od_notInOwn {d : PyData} {ds : List PyData} (h1 : SeqAt.shaped d = true) (h2 : SeqAt.shaped (.list ds) = true) : OD K f (rNotInD K) ⟨n, (D, ds.map .dat) :: r⟩ (.dat d) (.val (.ref D)) (Is ⟨n, (D, ds.map .dat) :: r⟩ (.dat (.bool (!ds.any fun z => PyData.eqv z d)))) := fun G H v u Q jj a b c => by
  cases (show u = V.ref D from b)
  exact ⟨d, ds, dpMono jj.ex a, own_dp jj, h1, h2, fD c jj (.bl _)⟩
theorem od_neOwn {d : PyData} {ds : List PyData} (h1 : SeqAt.shaped d = true) (h2 : SeqAt.shaped (.list ds) = true) : OD K f (rNeD K) ⟨n, (D, ds.map .dat) :: r⟩ (.val (.ref D)) (.dat d) (Is ⟨n, (D, ds.map .dat) :: r⟩ (.dat (.bool (!PyData.eqv (.list ds) d)))) := fun G H u v Q jj b a c => by
  cases (show u = V.ref D from b)
  exact ⟨.list ds, d, own_dp jj, dpMono jj.ex a, h2, h1, fD c jj (.bl _)⟩
theorem sd_app {i : Nat} {x : En} (hi : δ[i]? = some (.val (.ref D))) (h : ED K f ⟨n, (D, es) :: r⟩ te δ (Is ⟨n, (D, es) :: r⟩ x)) (hl : es.length < 100000) (k : p.nx ⟨n, (D, es ++ [x]) :: r⟩ δ) : SD K f ⟨n, (D, es) :: r⟩ (tDrop (tBM K "list" rAppend (tVar i) (tCons te tNil))) δ p := fun G H σ Dd a b c => by
  obtain ⟨v, e0, o1⟩ := Slots.get a hi rfl
  cases (show v = V.ref D from o1)
  obtain ⟨_, _, _, xs, e, vv⟩ := b.own D _ (List.mem_cons_self ..)
  refine ⟨_, e0, Or.inl ⟨rfl, xs, sq_of e⟩, h G H σ _ a b fun w z s2 G2 H2 e2 j2 o2 p2 => ?_⟩
  obtain ⟨rfl, rfl⟩ := p2
  obtain ⟨_, _, _, ys, e', vv'⟩ := j2.own D _ (List.mem_cons_self ..)
  exact ⟨D, ys, w, rfl, rfl, e', sz_lt (by rw [vv'.len]; exact hl), c.nx σ δ _ G2 _ e2 (j2.ownSet (Vs.app vv' o2)) (Slots.mono e2 a) k⟩
/-- x += e -/
theorem sd_aug {i : Nat} {g : Int → Int → Int} {a b : Int} (hx : δ[i]? = some (.dat (.int a))) (h : ED K f s te δ (Is s (.dat (.int b)))) (k : p.nx s (δ.set i (.dat (.int (g a b))))) : SD K f s (tAug i te (ipI g)) δ p := fun G H σ Dd sl jj c => by
  obtain ⟨v, e, o⟩ := Slots.get sl hx rfl
  cases o
  refine ⟨_, e, h G H σ _ sl jj fun w z s1 G1 H1 e1 j1 o1 p1 => ?_⟩
  obtain ⟨rfl, rfl⟩ := p1
  cases o1
  exact ⟨a, b, rfl, rfl, c.nx _ _ _ G1 H1 e1 j1 (Slots.set (SOk.of (show Ok K G1 (.int (g a b)) (.dat (.int (g a b))) from .int _)) i (Slots.mono e1 sl)) k⟩
end
/-! ### tuples of ints -/
def tupD (ns : List Int) : PyData := .tuple (ns.map .int)
theorem eqvAll_ints : ∀ a b : List Int, PyData.eqvAll (a.map .int) (b.map .int) = decide (a = b)
  | [], [] => by simp [PyData.eqvAll]
  | [], y :: ys => by simp [PyData.eqvAll]
  | x :: xs, [] => by simp [PyData.eqvAll]
  | x :: xs, y :: ys => by
    simp only [List.map_cons, PyData.eqvAll, PyData.eqv, eqvAll_ints xs ys]
    by_cases h : x = y
    · subst h
      simp
    · simp [h]
theorem eqv_tup (a b : List Int) : PyData.eqv (tupD a) (tupD b) = decide (a = b) := by
  unfold tupD
  simp only [PyData.eqv]
  exact eqvAll_ints a b
theorem eqv_lst (a b : List Int) : PyData.eqv (.list (a.map .int)) (.list (b.map .int)) = decide (a = b) := by
  simp only [PyData.eqv]
  exact eqvAll_ints a b
theorem any_tup (xs : List (List Int)) (a : List Int) : ((xs.map tupD).any fun z => PyData.eqv z (tupD a)) = decide (a ∈ xs) := by
  induction xs with
  | nil => simp
  | cons x xs ih =>
    rw [List.map_cons, List.any_cons, ih, eqv_tup]
    by_cases h : a = x
    · subst h
      simp
    · have h' : ¬ x = a := fun z => h z.symm
      simp [h, h']
theorem lay_tups : ∀ xs : List (List Int), PyData.canLayAll0 (xs.map tupD) = true
  | [] => by simp [PyData.canLayAll0]
  | x :: xs => by simp [PyData.canLayAll0, PyData.canLay0, tupD, lay_ints, lay_tups xs]
theorem depth_tups : ∀ xs : List (List Int), PyData.depthAll (xs.map tupD) ≤ 2
  | [] => by simp [PyData.depthAll]
  | x :: xs => by
    have h1 := depth_tups xs
    have h2 := depth_ints x
    simp only [List.map_cons, PyData.depthAll, tupD, PyData.depth] at h1 ⊢
    omega
theorem shaped_tups (xs : List (List Int)) : SeqAt.shaped (.list (xs.map tupD)) = true := by
  have := depth_tups xs
  unfold SeqAt.shaped
  rw [Bool.and_eq_true, decide_eq_true_eq]
  refine ⟨?_, ?_⟩
  · simp [PyData.canLay0, lay_tups xs]
  · simp only [PyData.depth]
    omega
theorem shaped_tup (a : List Int) : SeqAt.shaped (tupD a) = true := shaped_tints a
/-- sorted(xs), xs tuples of d ints each, less than B -/
def SortRes (L : List (List Int)) (B : Int) (x : En) : Prop := ∃ L' : List (List Int), L'.Perm L ∧ L'.Pairwise (fun a b => TS.code B a ≤ TS.code B b) ∧ x = .dat (.list (L'.map tupD))
theorem perm_back {K : PySem.W.Frag} {G : Hp} : ∀ {ys xs : List V}, ys.Perm xs → ∀ {L : List (List Int)}, DpAll K G xs (L.map tupD) → ∃ L' : List (List Int), L'.Perm L ∧ DpAll K G ys (L'.map tupD) := by
  intro ys xs h
  induction h with
  | nil => exact fun {L} d => ⟨L, .refl _, d⟩
  | cons x _ ih =>
    intro L d
    cases L with
    | nil => cases d
    | cons a L =>
      cases d with
      | cons h t =>
        obtain ⟨L', p, q⟩ := ih t
        exact ⟨a :: L', p.cons a, .cons h q⟩
  | swap x y l =>
    intro L d
    match L, d with
    | a :: b :: L, .cons h (.cons h' t) => exact ⟨b :: a :: L, .swap _ _ _, .cons h' (.cons h t)⟩
  | trans _ _ ih1 ih2 =>
    intro L d
    obtain ⟨L1, p1, d1⟩ := ih2 d
    obtain ⟨L2, p2, d2⟩ := ih1 d1
    exact ⟨L2, p2.trans p1, d2⟩
theorem pair_back {K : PySem.W.Frag} {G : Hp} {B : Int} : ∀ {ys : List V} {L : List (List Int)}, DpAll K G ys (L.map tupD) → ys.Pairwise (fun x y => ∀ n m, TupI K G x n → TupI K G y m → TS.code B n ≤ TS.code B m) → L.Pairwise (fun a b => TS.code B a ≤ TS.code B b)
  | _, [], _, _ => .nil
  | _, a :: L, .cons h t, p => by
    have tp : ∀ {v : V} {a : List Int}, Dp K G v (tupD a) → TupI K G v a := fun h => dp_tints h
    rw [List.pairwise_cons] at p ⊢
    refine ⟨fun b hb => ?_, pair_back t p.2⟩
    obtain ⟨j, hj, rfl⟩ := List.mem_iff_getElem.mp hb
    obtain ⟨v, hv, o⟩ := dpa_get t (i := j) (d := tupD L[j]) (by rw [List.getElem?_map, List.getElem?_eq_getElem hj]; rfl)
    exact p.1 v (List.mem_of_getElem? hv) _ _ (tp h) (tp o)
section
variable {K : PySem.W.Frag} {f : Fx} {s : Sx} {n : Nat} {D : Addr} {r : List (Addr × List En)} {d : Nat} {B : Int} {L : List (List Int)}
theorem sort_core {G H : Hp} {a : Addr} {xs : List V} {Q : VK} {P : Sx → En → Prop} (jj : J K f s G H) (hs : SqL K H a xs) (da : DpAll K G xs (L.map tupD)) (h64 : L.length < 64) (hb : ∀ a ∈ L, a.length = d ∧ TS.Bd B a) (i : ∀ x, SortRes L B x → P s x)
    (k : ∀ w z s' G2 H2, Ex G G2 → J K f s' G2 H2 → Ok K G2 w z → P s' z → Q w H2) : rSortU K d B [.ref a] H Q := by
  have eG := jj.ex
  have tp : ∀ {v : V} {a : List Int}, Dp K H v (tupD a) → TupI K H v a := fun h => dp_tints h
  have da2 : DpAll K H xs (L.map tupD) := dpaMono eG da
  refine ⟨a, xs, rfl, hs, by rw [dpa_len da, List.length_map]; exact h64, fun x hx => ?_, fun ys p hp ho hq => ?_⟩
  · obtain ⟨j, hj, rfl⟩ := List.mem_iff_getElem.mp hx
    obtain ⟨e, he, o⟩ := dpa_getV da2 (List.getElem?_eq_getElem hj)
    rw [List.getElem?_map] at he
    obtain ⟨c, hc, rfl⟩ := Option.map_eq_some_iff.mp he
    obtain ⟨h1, h2⟩ := hb c (List.mem_of_getElem? hc)
    exact ⟨c, tp o, h1, h2⟩
  · obtain ⟨L', pl, dl⟩ := perm_back hp da
    have eg : Ex G (upd G p (.lst ys)) := Ex.new (fresh_back jj.ex hq)
    refine k _ (.dat (.list (L'.map tupD))) s _ _ eg (jj.alloc hq _ trivial) (show Dp K _ _ _ from .lst (sq_of upd_same) (dpaMono eg dl)) (i _ ⟨L', pl, pair_back (dpaMono eG dl) ho, rfl⟩)
theorem cd_sortOwn {P : Sx → En → Prop} (h64 : L.length < 64) (hb : ∀ a ∈ L, a.length = d ∧ TS.Bd B a) (i : ∀ x, SortRes L B x → P ⟨n, (D, (L.map tupD).map .dat) :: r⟩ x) : CD K f (rSortU K d B) ⟨n, (D, (L.map tupD).map .dat) :: r⟩ [.val (.ref D)] P := fun G H vs Q jj a k => by
  cases a with
  | cons h t =>
    cases t
    cases (show _ = V.ref D from h)
    obtain ⟨_, _, _, xs, e, v⟩ := jj.own D _ (List.mem_cons_self ..)
    exact sort_core jj (sq_of e) (Vs.dpa v) h64 hb i k
theorem cd_sort {P : Sx → En → Prop} (h64 : L.length < 64) (hb : ∀ a ∈ L, a.length = d ∧ TS.Bd B a) (i : ∀ x, SortRes L B x → P s x) : CD K f (rSortU K d B) s [.dat (.list (L.map tupD))] P := fun G H vs Q jj a k => by
  cases a with
  | cons h t =>
    cases t
    cases h with
    | lst sq al => exact sort_core jj (ex_l jj.ex sq) al h64 hb i k
end
/-- a sorted order of unlike things is one -/
theorem sorted_one {B : Int} : ∀ {L M : List (List Int)}, L.Perm M → L.Pairwise (fun a b => TS.code B a ≤ TS.code B b) → M.Pairwise (fun a b => TS.code B a < TS.code B b) → L = M
  | [], M, p, _, _ => by rw [List.nil_perm.mp p]
  | a :: L, [], p, _, _ => by cases List.perm_nil.mp p
  | a :: L, b :: M, p, h1, h2 => by
    rw [List.pairwise_cons] at h1 h2
    have ab : a = b := by
      have ha : a ∈ b :: M := p.mem_iff.mp (List.mem_cons_self ..)
      have hb : b ∈ a :: L := p.mem_iff.mpr (List.mem_cons_self ..)
      rcases List.mem_cons.mp ha with e | ha
      · exact e
      · rcases List.mem_cons.mp hb with e | hb
        · exact e.symm
        · have := h2.1 a ha
          have := h1.1 b hb
          omega
    subst ab
    rw [sorted_one (List.Perm.cons_inv p) h1.2 h2.2]
end Dl

namespace Dl
open PySem L2 Evl
def isIntD : PyData → Bool
  | .int _ => true
  | .bool _ => true
  | _ => false
def isBoolD : PyData → Bool
  | .bool _ => true
  | _ => false
def isTupD : PyData → Bool
  | .tuple _ => true
  | _ => false
def isLstD : PyData → Bool
  | .list _ => true
  | _ => false
def isStrD : PyData → Bool
  | .str _ => true
  | _ => false
theorem kit_int (d : PyData) : kitB (tyD d) "int" = some (isIntD d) := by
  cases d
  · show kitB "NoneType" "int" = some false; decide +kernel
  · show kitB "bool" "int" = some true; decide +kernel
  · show kitB "int" "int" = some true; decide +kernel
  · show kitB "str" "int" = some false; decide +kernel
  · show kitB "list" "int" = some false; decide +kernel
  · show kitB "tuple" "int" = some false; decide +kernel
  · show kitB "dict" "int" = some false; decide +kernel
theorem kit_bool (d : PyData) : kitB (tyD d) "bool" = some (isBoolD d) := by
  cases d
  · show kitB "NoneType" "bool" = some false; decide +kernel
  · show kitB "bool" "bool" = some true; decide +kernel
  · show kitB "int" "bool" = some false; decide +kernel
  · show kitB "str" "bool" = some false; decide +kernel
  · show kitB "list" "bool" = some false; decide +kernel
  · show kitB "tuple" "bool" = some false; decide +kernel
  · show kitB "dict" "bool" = some false; decide +kernel
theorem kit_tuple (d : PyData) : kitB (tyD d) "tuple" = some (isTupD d) := by
  cases d
  · show kitB "NoneType" "tuple" = some false; decide +kernel
  · show kitB "bool" "tuple" = some false; decide +kernel
  · show kitB "int" "tuple" = some false; decide +kernel
  · show kitB "str" "tuple" = some false; decide +kernel
  · show kitB "list" "tuple" = some false; decide +kernel
  · show kitB "tuple" "tuple" = some true; decide +kernel
  · show kitB "dict" "tuple" = some false; decide +kernel
theorem kit_list (d : PyData) : kitB (tyD d) "list" = some (isLstD d) := by
  cases d
  · show kitB "NoneType" "list" = some false; decide +kernel
  · show kitB "bool" "list" = some false; decide +kernel
  · show kitB "int" "list" = some false; decide +kernel
  · show kitB "str" "list" = some false; decide +kernel
  · show kitB "list" "list" = some true; decide +kernel
  · show kitB "tuple" "list" = some false; decide +kernel
  · show kitB "dict" "list" = some false; decide +kernel
section
variable {K : PySem.W.Frag} {f : Fx} {s : Sx} {δ : List En} {te : TE} {d : PyData}
theorem ed_isInt (h : ED K f s te δ (Is s (.dat d))) : ED K f s (tCB (rIsi K) (tCons te (tCons (tC (.ty "int")) tNil))) δ (Is s (.dat (.bool (isIntD d)))) := ed_cb (ea_cons h (ea_cons ed_c ea_nil)) (cd_isi (kit_ty (kit_int d)))
theorem ed_isBool (h : ED K f s te δ (Is s (.dat d))) : ED K f s (tCB (rIsi K) (tCons te (tCons (tC (.ty "bool")) tNil))) δ (Is s (.dat (.bool (isBoolD d)))) := ed_cb (ea_cons h (ea_cons ed_c ea_nil)) (cd_isi (kit_ty (kit_bool d)))
theorem ed_isTup (h : ED K f s te δ (Is s (.dat d))) : ED K f s (tCB (rIsi K) (tCons te (tCons (tC (.ty "tuple")) tNil))) δ (Is s (.dat (.bool (isTupD d)))) := ed_cb (ea_cons h (ea_cons ed_c ea_nil)) (cd_isi (kit_ty (kit_tuple d)))
theorem ed_isLst (h : ED K f s te δ (Is s (.dat d))) : ED K f s (tCB (rIsi K) (tCons te (tCons (tC (.ty "list")) tNil))) δ (Is s (.dat (.bool (isLstD d)))) := ed_cb (ea_cons h (ea_cons ed_c ea_nil)) (cd_isi (kit_ty (kit_list d)))
/-- and, or, of truths -/
theorem ed_and {ta tb : TE} {a b : Bool} (h1 : ED K f s ta δ (Is s (.dat (.bool a)))) (h2 : a = true → ED K f s tb δ (Is s (.dat (.bool b)))) : ED K f s (tAndV ta tb) δ (Is s (.dat (.bool (a && b)))) := by
  refine ed_andV h1 (fun z => ?_) (fun z => ?_)
  · rw [z]; exact h2 z
  · rw [z]; exact ⟨rfl, rfl⟩
theorem ed_or {ta tb : TE} {a b : Bool} (h1 : ED K f s ta δ (Is s (.dat (.bool a)))) (h2 : a = false → ED K f s tb δ (Is s (.dat (.bool b)))) : ED K f s (tOrV ta tb) δ (Is s (.dat (.bool (a || b)))) := by
  refine ed_orV h1 (fun z => ?_) (fun z => ?_)
  · rw [z]; exact h2 z
  · rw [z]; exact ⟨rfl, rfl⟩
theorem map_bools {α : Type} (g : α → Bool) (f' : α → PyData) (h : PyData → PyData) (ds : List α) (e : ∀ a, h (f' a) = .bool (g a)) : (ds.map f').map h = (ds.map g).map PyData.bool := by
  rw [List.map_map, List.map_map]
  exact List.map_congr_left fun a _ => e a
/-- all([g(x) for x in t]) of truths -/
theorem ed_all {tl : TE} {ds : List PyData} {g : PyData → Bool} (h : ED K f s tl δ (Is s (.dat (.list (ds.map fun d => .bool (g d)))))) : ED K f s (tCB (rAll K) (tCons tl tNil)) δ (Is s (.dat (.bool ((ds.map g).all id)))) := by
  have e : ds.map (fun d => PyData.bool (g d)) = (ds.map g).map PyData.bool := by rw [List.map_map]; rfl
  rw [e] at h
  exact ed_cb (ea_cons h ea_nil) cd_all
theorem ed_callE {A : List En → Prop} {R : List En → En → Prop} {E : XK} {t : TA} {es : List En} {x : En} (h : EA K f s t δ (Is s es)) (a : A es) (i : ∀ y, R es y → y = x) : ED K f s (tCall (spP K A R) [] E t) δ (Is s x) := ed_call h a fun y r => ⟨rfl, i y r⟩
theorem sd_dropI {p : Po} {x : En} (h : ED K f s te δ (Is s x)) (k : p.nx s δ) : SD K f s (tDrop te) δ p := sd_drop h fun s' x q => by
  obtain ⟨rfl, rfl⟩ := q
  exact k
theorem sd_dropS {p : Po} {u : TS} {x : En} (h : ED K f s te δ (Is s x)) (k : SD K f s u δ p) : SD K f s (tSeq (tDrop te) u) δ p :=
  sd_seq (M := fun s' δ' => s' = s ∧ δ' = δ) (sd_dropI h ⟨rfl, rfl⟩) fun s' δ' q => by
    obtain ⟨rfl, rfl⟩ := q
    exact k
theorem ed_lcT1' {tl : TE} {ds : List PyData} {j : Nat} (g : PyData → PyData) {r : List PyData} (h : ED K f s tl δ (Is s (.dat (.tuple ds)))) (hl : ds.length ≤ 90000)
    (he : ∀ d, d ∈ ds → ∀ s', ED K f s' te ((wipeE δ [j]).set j (.dat d)) (Is s' (.dat (g d)))) (e : ds.map g = r) : ED K f s (tLc (iTup K tl) (gName j) tYes te [j]) δ (Is s (.dat (.list r))) := by
  subst e
  exact ed_lcT1 g h hl he
theorem ed_lcL1' {tl : TE} {ds : List PyData} {j : Nat} (g : PyData → PyData) {r : List PyData} (h : ED K f s tl δ (Is s (.dat (.list ds)))) (hl : ds.length ≤ 90000)
    (he : ∀ d, d ∈ ds → ∀ s', ED K f s' te ((wipeE δ [j]).set j (.dat d)) (Is s' (.dat (g d)))) (e : ds.map g = r) : ED K f s (tLc (iList K tl) (gName j) tYes te [j]) δ (Is s (.dat (.list r))) := by
  subst e
  exact ed_lcL1 g h hl he
end
end Dl

namespace Dl
open PySem L2 Evl
section
variable {K : PySem.W.Frag} {f : Fx} {s : Sx} {δ : List En} {ta te : TE} {n : Nat} {w : List (Addr × List En)} {p c : Addr}
theorem ed_drawC {i : Nat} {m : Int} {E : XK} (hf : f.pu = some (p, c)) (hi : δ[i]? = some (.val (.ref p))) (h1 : 1 ≤ m) (h2 : m ≤ 2 ^ 64) :
    ED K f ⟨n + 1, w⟩ (tCall spDraw [] E (tCons (tVar i) (tCons (tC (.int m)) tNil))) δ (Drawn n w m) := ed_draw hf hi ed_c h1 (Int.le_trans h2 (by decide +kernel))
theorem at_list {L : List PyData} {r : Int} (h0 : 0 ≤ r) (h1 : r < L.length) : ∃ d, d ∈ L ∧ atI L r = some d := by
  have hr : r.toNat < L.length := by omega
  refine ⟨L[r.toNat], List.getElem_mem hr, ?_⟩
  have q := atI_nat (xs := L) (j := r.toNat) (List.getElem?_eq_getElem hr)
  rw [Int.toNat_of_nonneg h0] at q
  exact q
/-- a drawn one of a list -/
theorem ed_pick {i : Nat} {m : Int} {E : XK} {L : List PyData} (hf : f.pu = some (p, c)) (hi : δ[i]? = some (.val (.ref p))) (h : ED K f ⟨n + 1, w⟩ ta δ (Is ⟨n + 1, w⟩ (.dat (.list L)))) (hm : m = L.length) (h1 : 1 ≤ m) (h2 : m ≤ 2 ^ 64) :
    ED K f ⟨n + 1, w⟩ (tOp (rIx K) ta (tCall spDraw [] E (tCons (tVar i) (tCons (tC (.int m)) tNil)))) δ (fun s' x => s' = ⟨n, w⟩ ∧ ∃ d, d ∈ L ∧ x = .dat d) :=
  ed_opN (P := Is ⟨n + 1, w⟩ (.dat (.list L))) (P2 := fun _ _ => Drawn n w m) h (fun s1 x q => by obtain ⟨rfl, rfl⟩ := q; exact ed_drawC hf hi h1 h2) fun s1 x s2 y q1 q2 => by
    obtain ⟨rfl, rfl⟩ := q1
    obtain ⟨rfl, r, r0, r1, rfl⟩ := q2
    obtain ⟨d, hd, e⟩ := at_list r0 (hm ▸ r1)
    intro G H v u Q jj a b k
    exact od_ix (.inl rfl) e G H v u Q jj a b fun w' z s' G2 H2 e1 j1 o1 p1 => k w' z s' G2 H2 e1 j1 o1 (by obtain ⟨rfl, rfl⟩ := p1; exact ⟨rfl, d, hd, rfl⟩)
theorem ea_consD {tr : TA} {x : En} {P : Sx → List En → Prop} (ha : ED K f s ta δ (Is s x)) (hb : EA K f s tr δ P) : EA K f s (tCons ta tr) δ (fun s' xs => ∃ r, xs = x :: r ∧ P s' r) :=
  ea_consN (P2 := fun _ _ => P) ha (fun s1 x1 h => by obtain ⟨rfl, rfl⟩ := h; exact hb) fun s1 x1 s2 y1 h1 h2 => by obtain ⟨rfl, rfl⟩ := h1; exact ⟨_, rfl, h2⟩
theorem ea_one {P : Sx → En → Prop} (ha : ED K f s ta δ P) : EA K f s (tCons ta tNil) δ (fun s' xs => ∃ x, xs = [x] ∧ P s' x) :=
  ea_consN (P2 := fun s1 _ => Is s1 []) ha (fun s1 x1 h => ea_nil) fun s1 x1 s2 y1 h1 h2 => by obtain ⟨rfl, rfl⟩ := h2; exact ⟨_, rfl, h1⟩
theorem ed_callN {A : List En → Prop} {R : List En → En → Prop} {E : XK} {t : TA} {PA : Sx → List En → Prop} {P : Sx → En → Prop} (h : EA K f s t δ PA) (a : ∀ s' es, PA s' es → A es ∧ ∀ x, R es x → P s' x) : ED K f s (tCall (spP K A R) [] E t) δ P := fun G H σ Q sl b c =>
  h G H σ _ sl b fun vs xs s1 G1 H1 e1 j1 o1 p1 => by
    rw [List.append_nil]
    exact sp_use j1 o1 (a s1 xs p1).1 (a s1 xs p1).2 fun w z s3 G3 H3 e3 j3 o3 p3 => c w z s3 G3 H3 (e1.trans e3) j3 o3 p3
/-- list(range(n)) -/
theorem ed_listRg {m : Nat} (h : ED K f s te δ (Is s (.dat (.int (m : Int))))) (hm : m ≤ 1000) : ED K f s (tLstRg (tRg1 te)) δ (Is s (.dat (.list (rngD m)))) := fun G H σ Q sl b k =>
  h G H σ _ sl b fun v x s1 G1 H1 e1 j1 o1 p1 => by
    obtain ⟨rfl, rfl⟩ := p1
    cases o1
    refine ⟨m, rfl, ⟨by decide, by decide, by omega, by omega, ?_⟩, fun q hq => ?_⟩
    · rw [Int.sub_zero, Int.toNat_natCast]
      exact Nat.le_trans hm (by decide)
    · refine fL (fun w z s' G2 H2 e3 => k w z s' G2 H2 (e1.trans e3)) j1 ?_ hq
      unfold rgV rngD
      rw [Int.sub_zero, Int.toNat_natCast]
      have all : ∀ l : List Nat, DpAll K G1 (l.map fun i => V.int (0 + (i : Nat))) (l.map fun (i : Nat) => PyData.int (i : Int)) := by
        intro l
        induction l with
        | nil => exact .nil
        | cons i l ih =>
          refine .cons ?_ ih
          show Dp K G1 (V.int (0 + (i : Int))) (PyData.int (i : Int))
          rw [Int.zero_add]
          exact .int _
      exact all _
end
end Dl

namespace Dl
open PySem L2 Evl
section
variable {K : PySem.W.Frag} {f : Fx} {s : Sx} {G H G2 H2 : Hp}
/-- a new thing that is not told -/
theorem J.allocH (j : J K f s G H) {q : Addr} (h : H q = none) (o : HO) : J K f s G (upd H q o) :=
  j.pure (Ex.refl G) (j.ex.trans (Ex.new h)) (Ex.new h) (fun b h1 h2 => absurd h2 h1) j.tf
theorem J.swap {n : Nat} {a b : Addr × List En} {r : List (Addr × List En)} (j : J K f ⟨n, a :: b :: r⟩ G H) : J K f ⟨n, b :: a :: r⟩ G H := by
  refine ⟨j.ex, fun D es m => j.own D es ?_, ?_, j.pu, j.fr, j.g0, j.fs, j.tf⟩
  · rcases List.mem_cons.mp m with e | m
    · exact List.mem_cons_of_mem _ (e ▸ List.mem_cons_self ..)
    · rcases List.mem_cons.mp m with e | m
      · exact e ▸ List.mem_cons_self ..
      · exact List.mem_cons_of_mem _ (List.mem_cons_of_mem _ m)
  · have h : (a.1 :: b.1 :: r.map (·.1)).Nodup := j.nd
    show (b.1 :: a.1 :: r.map (·.1)).Nodup
    rw [List.nodup_cons, List.nodup_cons] at h ⊢
    obtain ⟨h1, h2, h3⟩ := h
    refine ⟨fun m => ?_, fun m => h1 (List.mem_cons_of_mem _ m), h3⟩
    rcases List.mem_cons.mp m with e | m
    · exact h1 (e ▸ List.mem_cons_self ..)
    · exact h2 m
end
section
variable {K : PySem.W.Frag} {f : Fx} {s : Sx} {δ : List En} {ta tb te tl to : TE} {tt tu : TT} {P R : Sx → En → Prop} {t u : TS} {p : Po} {n : Nat} {D : Addr} {es : List En} {r : List (Addr × List En)}
theorem ed_swap {a b : Addr × List En} (h : ED K f ⟨n, b :: a :: r⟩ te δ P) : ED K f ⟨n, a :: b :: r⟩ te δ P := fun G H σ Q sl j k => h G H σ Q sl j.swap k
theorem sd_swap {a b : Addr × List En} (h : SD K f ⟨n, b :: a :: r⟩ t δ p) : SD K f ⟨n, a :: b :: r⟩ t δ p := fun G H σ D sl j k => h G H σ D sl j.swap k
theorem sd_less {m : Nat} (h : SD K f ⟨m, r⟩ t δ p) (hm : m ≤ n) : SD K f ⟨n, r⟩ t δ p := fun G H σ D sl j k => h G H σ D sl (j.less hm) k
theorem ed_less {m : Nat} (h : ED K f ⟨m, r⟩ te δ P) (hm : m ≤ n) : ED K f ⟨n, r⟩ te δ P := fun G H σ D sl j k => h G H σ D sl (j.less hm) k
/-- xs[i] = e of the list on top -/
theorem sd_setOwn {i : Nat} {x : En} {j : Nat} (hi : δ[i]? = some (.val (.ref D))) (h : ED K f ⟨n, (D, es) :: r⟩ te δ (Is ⟨n, (D, es) :: r⟩ x)) (hj : ED K f ⟨n, (D, es) :: r⟩ tb δ (Is ⟨n, (D, es) :: r⟩ (.dat (.int (j : Int))))) (hl : j < es.length) (k : p.nx ⟨n, (D, es.set j x) :: r⟩ δ) :
    SD K f ⟨n, (D, es) :: r⟩ (tAsg te (gSub (tVar i) tb rSetL)) δ p := fun G H σ Dd a b c =>
  h G H σ _ a b fun v y s1 G1 H1 e1 j1 o1 p1 => by
    obtain ⟨rfl, rfl⟩ := p1
    obtain ⟨w, e0, o0⟩ := Slots.get (Slots.mono e1 a) hi rfl
    cases (show w = V.ref D from o0)
    refine ⟨_, e0, hj G1 H1 σ _ (Slots.mono e1 a) j1 fun u z s2 G2 H2 e2 j2 o2 p2 => ?_⟩
    obtain ⟨rfl, rfl⟩ := p2
    cases o2
    obtain ⟨_, _, _, xs, e, vv⟩ := j2.own D _ (List.mem_cons_self ..)
    exact ⟨D, xs, (j : Int), j, rfl, rfl, e, Evl.ixN_nat (by rw [vv.len]; exact hl), c.nx σ δ _ G2 _ (e1.trans e2) (j2.ownSet (Vs.setAt j vv (o1.mono e2))) (Slots.mono (e1.trans e2) a) k⟩
/-- tuple(xs) of the list on top -/
theorem cd_tupleOwn {ds : List PyData} : CD K f (rTupF K) ⟨n, (D, ds.map .dat) :: r⟩ [.val (.ref D)] (Is ⟨n, (D, ds.map .dat) :: r⟩ (.dat (.tuple ds))) := fun G H vs Q jj a k => by
  cases a with
  | cons h t =>
    cases t
    cases (show _ = V.ref D from h)
    obtain ⟨_, _, _, xs, e, v⟩ := jj.own D _ (List.mem_cons_self ..)
    exact ⟨D, xs, rfl, .inl ⟨sq_of e, fun q o ho hq => fT k jj (Vs.dpa v) ho hq⟩⟩
/-- x = [e, ..] * k -/
theorem sd_repNew {i : Nat} {ta : TA} {k : Nat} (h : EA K f s ta δ (Is s es)) (hl : es.length * k ≤ 100000) (hl2 : es.length ≤ 100000) (hk : k ≤ 100000) (c : ∀ D, SD K f ⟨s.n, (D, (List.replicate k es).flatten) :: s.own⟩ u (δ.set i (.val (.ref D))) p) :
    SD K f s (tSeq (tAsg (tOp rRep (tLst ta) (tC (.int (k : Int)))) (gName i)) u) δ p := fun G H σ Dd a b cc =>
  h G H σ _ a b fun vs xs s1 G1 H1 e1 j1 o1 p1 => by
    obtain ⟨rfl, rfl⟩ := p1
    refine ⟨sz_of (by rw [o1.len]; exact hl2), fun q hq => ?_⟩
    have j2 := j1.allocH hq (.lst vs)
    refine ⟨q, (k : Int), vs, rfl, rfl, upd_same, by omega, by omega, ?_, fun p2 hp2 => ?_⟩
    · rw [Int.toNat_natCast, o1.len]
      exact sz_of hl
    · have vv : Vs K G1 (List.replicate (k : Int).toNat vs).flatten (List.replicate k xs).flatten := by
        rw [Int.toNat_natCast]
        have all : ∀ m : Nat, Vs K G1 (List.replicate m vs).flatten (List.replicate m xs).flatten := by
          intro m
          induction m with
          | zero => exact .nil
          | succ m ih =>
            rw [List.replicate_succ, List.replicate_succ, List.flatten_cons, List.flatten_cons]
            exact Vs.cat o1 ih
        exact all k
      exact c p2 G1 _ _ Dd (Slots.set (SOk.of (show Ok K G1 (.ref p2) (.val (.ref p2)) from rfl)) i (Slots.mono e1 a)) (j2.ownNew hp2 vv) (cc.mono e1)
/-- xs.pop(i) of the list on top -/
theorem ed_popOwn {i : Nat} {P : Sx → En → Prop} (hi : δ[i]? = some (.val (.ref D))) (h : ED K f ⟨n, (D, es) :: r⟩ te δ P) (hl : es.length ≤ 100000)
    (k : ∀ s' x, P s' x → ∃ m j z, s' = ⟨m, (D, es) :: r⟩ ∧ x = .dat (.int ((j : Nat) : Int)) ∧ es[j]? = some z ∧ R ⟨m, (D, es.eraseIdx j) :: r⟩ z) : ED K f ⟨n, (D, es) :: r⟩ (tBM K "list" rPopAt (tVar i) (tCons te tNil)) δ R := fun G H σ Q sl b c => by
  obtain ⟨v, e0, o1⟩ := Slots.get sl hi rfl
  cases (show v = V.ref D from o1)
  obtain ⟨_, _, _, xs, e, vv⟩ := b.own D _ (List.mem_cons_self ..)
  refine ⟨_, e0, Or.inl ⟨rfl, xs, sq_of e⟩, h G H σ _ sl b fun w z s2 G2 H2 e2 j2 o2 p2 => ?_⟩
  obtain ⟨m, j, y, rfl, rfl, hy, hr⟩ := k s2 z p2
  cases o2
  obtain ⟨_, _, _, ys, e', vv'⟩ := j2.own D _ (List.mem_cons_self ..)
  have hj : j < es.length := (List.getElem?_eq_some_iff.mp hy).1
  obtain ⟨v2, hv2, ov2⟩ := Vs.get vv' hy
  refine ⟨D, ys, (j : Int), j, v2, rfl, rfl, e', by omega, by omega, ?_, hv2, ?_⟩
  · rw [vv'.len]
    exact (ixN_seq (Evl.ixN_nat hj)).1
  · have er : ∀ {vs : List V} {es : List En} (j : Nat), Vs K G2 vs es → Vs K G2 (vs.eraseIdx j) (es.eraseIdx j) := by
      intro vs es j hv
      induction hv generalizing j with
      | nil => exact .nil
      | cons a t ih =>
        cases j with
        | zero => exact t
        | succ j => exact .cons a (ih j)
    exact c _ y _ G2 _ e2 (j2.ownSet (er j vv')) ov2 hr
/-- xs.append(e), e anything -/
theorem sd_appN {i : Nat} {P : Sx → En → Prop} (hi : δ[i]? = some (.val (.ref D))) (h : ED K f ⟨n, (D, es) :: r⟩ te δ P) (k : ∀ s' x, P s' x → ∃ m es' r', s' = ⟨m, (D, es') :: r'⟩ ∧ es'.length < 100000 ∧ p.nx ⟨m, (D, es' ++ [x]) :: r'⟩ δ) : SD K f ⟨n, (D, es) :: r⟩ (tDrop (tBM K "list" rAppend (tVar i) (tCons te tNil))) δ p := fun G H σ Dd a b c => by
  obtain ⟨v, e0, o1⟩ := Slots.get a hi rfl
  cases (show v = V.ref D from o1)
  obtain ⟨_, _, _, xs, e, vv⟩ := b.own D _ (List.mem_cons_self ..)
  refine ⟨_, e0, Or.inl ⟨rfl, xs, sq_of e⟩, h G H σ _ a b fun w z s2 G2 H2 e2 j2 o2 p2 => ?_⟩
  obtain ⟨m, es', r', rfl, hl, hk⟩ := k s2 z p2
  obtain ⟨_, _, _, ys, e', vv'⟩ := j2.own D _ (List.mem_cons_self ..)
  exact ⟨D, ys, w, rfl, rfl, e', sz_lt (by rw [vv'.len]; exact hl), c.nx σ δ _ G2 _ e2 (j2.ownSet (Vs.app vv' o2)) (Slots.mono e2 a) hk⟩
/-- x = list(xs) that will be changed -/
theorem sd_listNew {i : Nat} {ds : List PyData} {c : PyData} (h : ED K f s te δ (Is s (.dat c))) (hk : c = .list ds ∨ c = .tuple ds) (k : ∀ D, SD K f ⟨s.n, (D, ds.map .dat) :: s.own⟩ u (δ.set i (.val (.ref D))) p) :
    SD K f s (tSeq (tAsg (tCB (fun xs H Q => ∃ p ys, xs = [.ref p] ∧ (SqL K H p ys ∨ SqT K H p ys) ∧ ∀ l, H l = none → Q (.ref l) (upd H l (.lst ys))) (tCons te tNil)) (gName i)) u) δ p := fun G H σ Dd a b cc =>
  h G H σ _ a b fun v x s1 G1 H1 e1 j1 o1 p1 => by
    obtain ⟨rfl, rfl⟩ := p1
    rcases hk with rfl | rfl
    · cases o1 with
      | lst sq al => exact ⟨_, _, rfl, .inl (ex_l j1.ex sq), fun q hq => k q G1 _ _ Dd (Slots.set (SOk.of (show Ok K G1 (.ref q) (.val (.ref q)) from rfl)) i (Slots.mono e1 a)) (j1.ownNew hq (Vs.of_dpa al)) (cc.mono e1)⟩
    · cases o1 with
      | tup sq al => exact ⟨_, _, rfl, .inr (ex_t j1.ex sq), fun q hq => k q G1 _ _ Dd (Slots.set (SOk.of (show Ok K G1 (.ref q) (.val (.ref q)) from rfl)) i (Slots.mono e1 a)) (j1.ownNew hq (Vs.of_dpa al)) (cc.mono e1)⟩
/-- the list on top is returned, as data -/
theorem ed_ownEnd {i : Nat} {ds : List PyData} (hi : δ[i]? = some (.val (.ref D))) : ED K f ⟨n, (D, ds.map .dat) :: r⟩ (tVar i) δ (Is ⟨n, r⟩ (.dat (.list ds))) := fun G H σ Q sl b c => by
  obtain ⟨v, e0, o1⟩ := Slots.get sl hi rfl
  cases (show v = V.ref D from o1)
  obtain ⟨xs, j2, vv, hg, hx⟩ := b.ownEnd
  have e2 : Ex G (upd G D (.lst xs)) := Ex.new hg
  exact ⟨_, e0, c _ (.dat (.list ds)) _ _ H e2 j2 (show Dp K _ _ _ from .lst (sq_of upd_same) (dpaMono e2 (Vs.dpa vv))) ⟨rfl, rfl⟩⟩
/-! ### for a, b in zip(t, u) of tuples -/
def gNs : List Nat → TGs
  | [] => gNil
  | i :: is => gCons (gName i) (gNs is)
def setAll : List En → List Nat → List En → List En
  | δ, i :: is, x :: xs => setAll (δ.set i x) is xs
  | δ, _, _ => δ
theorem gNs_ok {G H : Hp} {Q : St → Hp → Prop} : ∀ {is : List Nat} {vs : List V} {es : List En} {σ : St} {δ : List En}, is.length = vs.length → Vs K G vs es → Slots K G σ δ → (∀ σ', Slots K G σ' (setAll δ is es) → Q σ' H) → gNs is vs σ H Q
  | [], [], _, σ, δ, _, h, sl, k => by
    cases h
    exact ⟨rfl, k σ sl⟩
  | i :: is, v :: vs, _, σ, δ, hl, .cons a t, sl, k => ⟨v, vs, rfl, gNs_ok (by simpa using hl) t (Slots.set (SOk.of a) i sl) k⟩
  | [], _ :: _, _, _, _, hl, _, _, _ => by simp at hl
  | _ :: _, [], _, _, _, hl, _, _, _ => by simp at hl
/-- a, b, .. = t, a tuple of data -/
theorem sd_unpack {is : List Nat} {m : Nat} {ds : List PyData} (h : ED K f s te δ (Is s (.dat (.tuple ds)))) (hm : ds.length = m) (hi : is.length = m) (k : SD K f s u (setAll δ is (ds.map .dat)) p) : SD K f s (tSeq (tAsg te (gTup K m (gNs is))) u) δ p := fun G H σ Dd a b c =>
  h G H σ _ a b fun v x s1 G1 H1 e1 j1 o1 p1 => by
    obtain ⟨rfl, rfl⟩ := p1
    cases o1 with
    | tup sq al =>
      exact ⟨_, _, rfl, ex_t j1.ex sq, (dpa_len al).trans hm, gNs_ok (by rw [hi, dpa_len al, hm]) (Vs.of_dpa al) (Slots.mono e1 a) fun σ' sl => k G1 H1 σ' Dd sl j1 (c.mono e1)⟩
theorem sd_zipT {ta : TA} {i1 i2 : Nat} {ds ds2 : List PyData} (h : EA K f s ta δ (Is s [.dat (.tuple ds), .dat (.tuple ds2)])) (hl : ds.length = ds2.length) (W : Nat → Sx → List En → Prop) (h0 : W 0 s δ)
    (hs : ∀ i d d2 s' δ', ds[i]? = some d → ds2[i]? = some d2 → W i s' δ' → SD K f s' t ((δ'.set i1 (.dat d)).set i2 (.dat d2)) { p with nx := W (i + 1), ct := W (i + 1), bk := p.nx }) (hd : ∀ s' δ', W ds.length s' δ' → p.nx s' δ') : SD K f s (tFor (RZ.iZipA K ta) (gTup K 2 (gNs [i1, i2])) t) δ p := fun G H σ D a b c =>
  h G H σ _ a b fun vs xs s1 G1 H1 e1 j1 o1 p1 => by
    obtain ⟨rfl, rfl⟩ := p1
    cases o1 with
    | cons o1 o2 =>
      cases o2 with
      | cons o2 o3 =>
        cases o3
        cases o1 with
        | tup sq al =>
          cases o2 with
          | tup sq2 al2 =>
            rename_i ad xs ad2 ys
            refine ⟨ad, ad2, xs, ys, rfl, .inr ⟨ex_t j1.ex sq, ex_t j1.ex sq2, RZ.for_zipT (xs := xs) (ys := ys) (by rw [dpa_len al, dpa_len al2]; exact hl) (fun i => pAt K f G1 (W i)) ⟨s1, δ, G1, Ex.refl G1, j1, Slots.mono e1 a, h0⟩ (fun i σ' H' hp => ?_) (fun i x y T σ' H' hx hy hp hT => ?_) (fun σ' H' hp => ?_)⟩⟩
            · obtain ⟨s', δ', G', eg, jj, _⟩ := hp
              exact ⟨ex_t jj.ex (ex_t eg sq), ex_t jj.ex (ex_t eg sq2)⟩
            · obtain ⟨s', δ', G', eg, jj, sl, w⟩ := hp
              obtain ⟨d, hd', od⟩ := dpa_getV al hx
              obtain ⟨d2, hd2, od2⟩ := dpa_getV al2 hy
              have vv : Vs K G' [x, y] [.dat d, .dat d2] := .cons (show Ok K G' x (.dat d) from dpMono eg od) (.cons (show Ok K G' y (.dat d2) from dpMono eg od2) .nil)
              exact ⟨T, [x, y], rfl, st_of upd_same, rfl, gNs_ok rfl vv sl fun σ2 sl2 => hs i d d2 s' δ' hd' hd2 w G' _ σ2 _ sl2 (jj.allocH hT _) (sat_turn (c.mono e1) eg)⟩
            · obtain ⟨s', δ', G', eg, jj, sl, w⟩ := hp
              rw [dpa_len al] at w
              exact c.nx σ' δ' s' G' H' (e1.trans eg) jj sl (hd s' δ' w)
end
end Dl

namespace Dl
open PySem L2 Evl
section
variable {K : PySem.W.Frag} {f : Fx} {s : Sx} {δ : List En} {ta tb te tl to : TE} {tt tu : TT} {P R : Sx → En → Prop} {t u : TS} {p : Po} {n c : Nat} {D : Addr} {es : List En} {w : List (Addr × List En)} {Pe : PyData → PyData → Prop}
/-! ### comprehensions whose elements draw: c draws each -/
def lcAtN (K : PySem.W.Frag) (f : Fx) (Pe : PyData → PyData → Prop) (n c : Nat) (w : List (Addr × List En)) (G1 : Hp) (Dl : Addr) (ds : List PyData) (i : Nat) (H : Hp) : Prop := ∃ G' rs, Ex G1 G' ∧ Paired Pe (ds.take i) rs ∧ J K f ⟨n + c * (ds.length - i), (Dl, rs.map .dat) :: w⟩ G' H
theorem lcN_turn {G1 H : Hp} {σ2 : St} {δ2 : List En} {Dl : Addr} {ds : List PyData} {i : Nat} {d : PyData} (hl : ds.length ≤ 90000) (e : ds[i]? = some d) (h : lcAtN K f Pe n c w G1 Dl ds i H)
    (sl : ∀ G', Ex G1 G' → Slots K G' σ2 δ2) (he : ∀ k w', ED K f ⟨k + c, w'⟩ te δ2 (fun s' x => s' = ⟨k, w'⟩ ∧ ∃ r, x = .dat r ∧ Pe d r)) :
    tYes σ2 H fun b H3 => if b = true then te σ2 H3 fun y H4 => ∃ acc, H4 Dl = some (.lst acc) ∧ acc.length < sizeLine ∧ lcAtN K f Pe n c w G1 Dl ds (i + 1) (upd H4 Dl (.lst (acc ++ [y]))) else lcAtN K f Pe n c w G1 Dl ds (i + 1) H3 := by
  obtain ⟨G', rs, eg, pr, jj⟩ := h
  have hi : i < ds.length := (List.getElem?_eq_some_iff.mp e).1
  have ek : n + c * (ds.length - i) = (n + c * (ds.length - (i + 1))) + c := by
    have : ds.length - i = (ds.length - (i + 1)) + 1 := by omega
    rw [this, Nat.mul_add, Nat.mul_one]
    omega
  rw [ek] at jj
  show te σ2 H _
  refine he _ _ G' H σ2 _ (sl G' eg) jj fun y x s2 G3 H3 e3 j3 o3 q3 => ?_
  obtain ⟨rfl, r, rfl, pe⟩ := q3
  obtain ⟨a1, a2, a3, acc, a4, a5⟩ := j3.own Dl _ (List.mem_cons_self ..)
  refine ⟨acc, a4, sz_lt ?_, G3, rs ++ [r], eg.trans e3, ?_, ?_⟩
  · rw [a5.len, List.length_map, ← Paired.length pr, List.length_take]
    omega
  · rw [List.take_add_one, e]
    exact Paired.snoc pr pe
  · rw [List.map_append]
    exact j3.ownSet (Vs.app a5 o3)
theorem lcN_end {G1 H : Hp} {Q : VK} {Dl : Addr} {ds : List PyData} {G : Hp} (eG : Ex G G1) (h : lcAtN K f Pe n c w G1 Dl ds ds.length H)
    (k : ∀ v z s' G2 H2, Ex G G2 → J K f s' G2 H2 → Ok K G2 v z → (s' = ⟨n, w⟩ ∧ ∃ rs, Paired Pe ds rs ∧ z = .dat (.list rs)) → Q v H2) : Q (.ref Dl) H := by
  obtain ⟨G', rs, eg, pr, jj⟩ := h
  rw [List.take_length] at pr
  rw [Nat.sub_self, Nat.mul_zero, Nat.add_zero] at jj
  obtain ⟨xs, j2, v, hg, hx⟩ := jj.ownEnd
  have e2 : Ex G' (upd G' Dl (.lst xs)) := Ex.new hg
  exact k _ (.dat (.list rs)) _ _ H ((eG.trans eg).trans e2) j2 (show Dp K _ _ _ from .lst (sq_of upd_same) (dpaMono e2 (Vs.dpa v))) ⟨rfl, rs, pr, rfl⟩
theorem ed_lcRN {ta : TA} {m j : Nat} (h : EA K f ⟨n + c * m, w⟩ ta δ (Is ⟨n + c * m, w⟩ [.dat (.int (m : Int))])) (hl : m ≤ 90000)
    (he : ∀ d, d ∈ rngD m → ∀ k w', ED K f ⟨k + c, w'⟩ te ((wipeE δ [j]).set j (.dat d)) (fun s' x => s' = ⟨k, w'⟩ ∧ ∃ r, x = .dat r ∧ Pe d r)) :
    ED K f ⟨n + c * m, w⟩ (tLc (iRng1 ta) (gName j) tYes te [j]) δ (fun s' x => s' = ⟨n, w⟩ ∧ ∃ rs, Paired Pe (rngD m) rs ∧ x = .dat (.list rs)) := fun G H σ Q a b cc =>
  h G H σ _ a b fun v x s1 G1 H1 e1 j1 o1 p1 => by
    obtain ⟨rfl, rfl⟩ := p1
    cases o1 with
    | cons o1 o2 =>
      cases o2
      cases o1
      refine ⟨m, rfl, by omega, by omega, fun Dl hD => lc_range (lo := 0) (n := ((m : Int)).toNat) (fun i => lcAtN K f Pe n c w G1 Dl (rngD m) i) ⟨G1, [], Ex.refl G1, .nil, ?_⟩ (fun i H' hi hp => ?_) (fun H' hp => ?_)⟩
      · rw [rngD_len, Nat.sub_zero]
        exact j1.ownNew hD .nil
      · have e0 : (0 : Int) + (i : Int) = (i : Int) := Int.zero_add _
        have hd' := rngD_get (n := m) (i := i) (by omega)
        have q := lcN_turn (σ2 := (wipe σ [j]).set j (some (.int (i : Int)))) (te := te) (by rw [rngD_len]; exact hl) hd' hp (fun G' eg => Slots.set (SOk.of (show Ok K G' (.int (i : Int)) (.dat (.int (i : Int))) from .int _)) j (Slots.wipe (Slots.mono (e1.trans eg) a) [j])) (he _ (List.mem_of_getElem? hd'))
        show wipe ((wipe σ [j]).set j (some (.int ((0 : Int) + (i : Int))))) [j] = wipe σ [j] ∧ tYes ((wipe σ [j]).set j (some (.int ((0 : Int) + (i : Int))))) H' _
        rw [e0]
        exact ⟨wipe1, q⟩
      · rw [Int.toNat_natCast] at hp
        have hp' : lcAtN K f Pe n c w G1 Dl (rngD m) (rngD m).length H' := by rw [rngD_len]; exact hp
        exact lcN_end e1 hp' cc
theorem ed_lcTN {ds : List PyData} {j : Nat} (h : ED K f ⟨n + c * ds.length, w⟩ tl δ (Is ⟨n + c * ds.length, w⟩ (.dat (.tuple ds)))) (hl : ds.length ≤ 90000)
    (he : ∀ d, d ∈ ds → ∀ k w', ED K f ⟨k + c, w'⟩ te ((wipeE δ [j]).set j (.dat d)) (fun s' x => s' = ⟨k, w'⟩ ∧ ∃ r, x = .dat r ∧ Pe d r)) :
    ED K f ⟨n + c * ds.length, w⟩ (tLc (iTup K tl) (gName j) tYes te [j]) δ (fun s' x => s' = ⟨n, w⟩ ∧ ∃ rs, Paired Pe ds rs ∧ x = .dat (.list rs)) := fun G H σ Q a b cc =>
  h G H σ _ a b fun v x s1 G1 H1 e1 j1 o1 p1 => by
    obtain ⟨rfl, rfl⟩ := p1
    cases o1 with
    | tup sq al =>
      rename_i ad xs
      refine ⟨ad, rfl, ⟨xs, ex_t j1.ex sq⟩, fun Dl hD => lc_tup (xs := xs) (fun i => lcAtN K f Pe n c w G1 Dl ds i) ⟨G1, [], Ex.refl G1, .nil, j1.ownNew hD .nil⟩ (fun i H' _ hp => ?_) (fun i y H' hy hp => ⟨wipe1, ?_⟩) (fun H' hp => ?_)⟩
      · obtain ⟨G', rs, eg, _, jj⟩ := hp
        exact ex_t jj.ex (ex_t eg sq)
      · obtain ⟨d, hd', od⟩ := dpa_getV al hy
        exact lcN_turn hl hd' hp (fun G' eg => Slots.set (SOk.of (show Ok K G' y (.dat d) from dpMono eg od)) j (Slots.wipe (Slots.mono (e1.trans eg) a) [j])) (he d (List.mem_of_getElem? hd'))
      · rw [dpa_len al] at hp
        exact lcN_end e1 hp cc
end
/-! ### tuples cut and put together -/
section
variable {X : Cx}
def rSlF (K : PySem.W.Frag) : V → Option Int → Option Int → Hp → VK → Prop := fun x lo hi H Q => ∃ a xs, x = .ref a ∧ SqT K H a xs ∧
  (HT.sIx xs.length 0 lo = 0 ∧ HT.sIx xs.length xs.length hi = xs.length → Q (.ref a) H) ∧ (¬ (HT.sIx xs.length 0 lo = 0 ∧ HT.sIx xs.length xs.length hi = xs.length) → ∀ q o, o.dict = none → H q = none → Q (.ref q) (upd H q (.frz o (.tup (cutV xs lo hi)))))
theorem sl_tupF : SlR X (rSlF X.K) := by
  intro pins s σ H x v vl vu lo hi sl Q I rx hs pl pu h
  obtain ⟨a, xs, rfl, hx, q1, q2⟩ := h
  cases rx
  obtain ⟨its, r, ht, hz⟩ := I.tuple hx
  have hn : its.toArray.size = xs.length := by rw [List.size_toArray]; exact r.length.symm
  refine ⟨"tuple", _, PyProof.Rows.slot_tuple_getitem.lookup, ht.typeIs, ?_⟩
  by_cases hw : HT.sIx xs.length 0 lo = 0 ∧ HT.sIx xs.length xs.length hi = xs.length
  · exact getItem_tuple_whole ht hs pl pu (by rw [hn]; exact hw) ⟨.ref a, H, I, rfl, q1 hw⟩
  · refine HT.getItem_tuple_cut ht hs pl pu (by rw [hn]; exact hw) ?_ (by rw [hn]; exact hz)
    rw [hn]
    refine ⟨.ref s.heap.objs.size, _, I.laid (t' := s.toks) (o := .frz _ (.tup (cutV xs lo hi))) (fun b ob q => Heap.get?_push_of_some _ q) (Nat.le_refl _) ⟨Heap.get?_push_size _ rfl, Nat.le_trans (cutV_length xs lo hi) hz, _, (r.drop (HT.sIx xs.length 0 lo)).take (HT.sIx xs.length xs.length hi - HT.sIx xs.length 0 lo), ⟨_, Heap.get?_push_size _ rfl, rfl, _, rfl⟩⟩, rfl, q2 hw _ _ rfl (I.hok.fresh (Nat.le_refl _))⟩
def rCatF (K : PySem.W.Frag) : R2 := fun x y H Q => ∃ a b xs ys, x = .ref a ∧ y = .ref b ∧ SqT K H a xs ∧ SqT K H b ys ∧ xs.length + ys.length ≤ sizeLine ∧
  (xs = [] → Q (.ref b) H) ∧ (xs ≠ [] → ys = [] → Q (.ref a) H) ∧ (xs ≠ [] → ys ≠ [] → ∀ q o, o.dict = none → H q = none → Q (.ref q) (upd H q (.frz o (.tup (xs ++ ys)))))
theorem op_catF : OpR X (binaryOp .Add) (rCatF X.K) := by
  intro pins s σ H x y v u Q I rx ry h
  obtain ⟨a, b, xs, ys, rfl, rfl, ha, hb, hz, q0, q1, q2⟩ := h
  cases rx
  cases ry
  obtain ⟨its, r1, p1, _⟩ := I.tuple ha
  obtain ⟨its2, r2, p2, _⟩ := I.tuple hb
  by_cases hx : xs = []
  · subst hx
    cases r1
    exact cat_tup0 p1 p2 ⟨.ref b, H, I, rfl, q0 rfl⟩
  · refine HT.cat_tup p1 p2 (fun z => hx (r1.nil_iff.mp z)) (fun z => ⟨.ref a, H, I, rfl, q1 hx (r2.nil_iff.mp z)⟩) (fun z => ?_) (by rw [← r1.length, ← r2.length]; exact hz)
    refine ⟨.ref s.heap.objs.size, _, I.laid (t' := s.toks) (o := .frz _ (.tup (xs ++ ys))) (fun b ob q => Heap.get?_push_of_some _ q) (Nat.le_refl _) ⟨Heap.get?_push_size _ rfl, by rw [List.length_append]; exact hz, _, r1.append r2, ⟨_, Heap.get?_push_size _ rfl, rfl, _, rfl⟩⟩, rfl, q2 hx (fun w => z (r2.nil_iff.mpr w)) _ _ rfl (I.hok.fresh (Nat.le_refl _))⟩
/-- min of a tuple of ints -/
def rMinT (K : PySem.W.Frag) : List V → Hp → VK → Prop := fun vs H Q => ∃ (a : Addr) (ns : List Int), vs = [V.ref a] ∧ SqT K H a (ns.map V.int) ∧ 0 < ns.length ∧ ∀ m, m ∈ ns → (∀ y, y ∈ ns → m ≤ y) → Q (.int m) H
open PySem.Spec PyProof.Rows in
theorem min_tup {prog : Program} {w : World} {A : Around} {E : Value → Shared → Prop} {s : Shared} {l : Addr} {its : List Value} {ns : List Int} {Q : Value → Shared → Prop} (hh : A.handled = none) (hl : s.heap.IsTuple l its.toArray) (hi : IntsAre its ns) (hne : 0 < ns.length)
    (h : ∀ h' tk M t', (∀ b o, s.heap.get? b = some o → h'.get? b = some o) → M ∈ ns → (∀ a, a ∈ ns → M ≤ a) → Q (.int M t') { s with heap := h', toks := tk }) : wpAny (model prog w) A (call (.builtin "min") [.ref l]) Q E s := by
  obtain ⟨xs, e⟩ := hi.allInts.items
  have hn : numsOf (intItems xs).toList = ns := by rw [← e]; exact hi.numsOf
  rw [nums_intItems] at hn
  subst hn
  rw [e] at hl
  have hsz : 0 < xs.size := by simpa using hne
  have hlt : l < s.heap.objs.size := by obtain ⟨_, e, _⟩ := hl; exact Heap.lt_size e
  refine call_min_walk (wpAny_pyIter_tuple hl ?_)
  refine ⟨_, [_, l], [_], _, _, _, _, rfl, Walks.tuple (A := A.in1) hh _ l (Nat.ne_of_lt hlt) (intItems xs), ⟨⟨_, Heap.get?_push_size _ rfl, rfl, rfl⟩, hl.push _⟩, fun b hb => ?_, by simpa [intItems] using hsz, CmpOf.ints_lt (numAt xs) (fun _ _ => intItems_at), fun v h' tk hP hk => ?_⟩
  · show b < (s.heap.push _).objs.size
    rw [Heap.size_push]
    rcases List.mem_cons.mp hb with rfl | hb
    · exact Nat.lt_succ_self _
    · rcases List.mem_cons.mp hb with rfl | hb
      · exact Nat.lt_succ_of_lt hlt
      · cases hb
  · have hP' : (intItems xs)[argBest (fun i j => decide (numAt xs i < numAt xs j)) (xs.size - 1)]? = some v := by simpa [intItems] using hP
    obtain ⟨t, rfl⟩ := intItems_at hP'
    obtain ⟨h1, h2⟩ := argBest_lt (numAt xs) (xs.size - 1)
    refine h h' tk _ t (fun b o e => hk b o (fun hm => ?_) (Heap.get?_push_of_some _ e)) ?_ fun a ha => ?_
    · rcases List.mem_cons.mp hm with e1 | hm
      · exact absurd (e1 ▸ Heap.lt_size e) (Nat.lt_irrefl _)
      · cases hm
    · rw [numAt_eq]; exact PySem.getD_mem (by rw [List.length_map, Array.length_toList]; omega)
    · obtain ⟨j, hj, rfl⟩ := mem_getD ha
      rw [List.length_map, Array.length_toList] at hj
      rw [← numAt_eq]; exact h2 j (by omega)
open PySem.Spec PyProof.Rows in
theorem cr_minT (hc : X.calm = true) : CallR X (.builtin "min") (rMinT X.K) := by
  intro pins s σ H vs us Q I r h
  obtain ⟨a, ns, rfl, hs, hne, q⟩ := h
  obtain ⟨its, rv, hl, _⟩ := I.tuple hs
  rw [Vals.ref1 r]
  exact min_tup (I.ok.hd hc) hl rv.ints hne fun h' tk m t' hk h1 h2 => ⟨.int _, H, I.kept hk, ⟨_, rfl⟩, q m h1 h2⟩
end
section
variable {K : PySem.W.Frag} {f : Fx} {s : Sx} {δ : List En} {ta tb te : TE}
theorem cd_minT {ns : List Int} (hn : 0 < ns.length) : CD K f (rMinT K) s [.dat (.tuple (ns.map .int))] (fun s' x => s' = s ∧ ∃ m, m ∈ ns ∧ (∀ y ∈ ns, m ≤ y) ∧ x = .dat (.int m)) := fun G H vs Q jj a k => by
  cases a with
  | cons h t =>
    cases t
    obtain ⟨ad, rfl, sq⟩ := dp_tints h
    exact ⟨ad, ns, rfl, ex_t jj.ex sq, hn, fun m h1 h2 => k _ (.dat (.int m)) s G H (Ex.refl G) jj (.int _) ⟨rfl, m, h1, h2, rfl⟩⟩
def cutD (xs : List PyData) (lo hi : Option Int) : List PyData := (xs.drop (HT.sIx xs.length 0 lo)).take (HT.sIx xs.length xs.length hi - HT.sIx xs.length 0 lo)
theorem dpa_cut {G : Hp} {vs : List V} {ds : List PyData} (h : DpAll K G vs ds) (lo hi : Option Int) : DpAll K G (cutV vs lo hi) (cutD ds lo hi) := by
  unfold cutV cutD
  rw [dpa_len h]
  exact Vs.dpa (by
    have := Vs.takeN (HT.sIx ds.length ds.length hi - HT.sIx ds.length 0 lo) (Vs.dropN (HT.sIx ds.length 0 lo) (Vs.of_dpa h))
    rw [← List.map_drop, ← List.map_take] at this
    exact this)
theorem ed_slT {tl th : TO} {ds : List PyData} {lo hi : Option Int} (h : ED K f s te δ (Is s (.dat (.tuple ds)))) (h1 : ∀ G σ (Q : Option Int → Hp → Prop), Q lo G → tl σ G Q) (h2 : ∀ G σ (Q : Option Int → Hp → Prop), Q hi G → th σ G Q) : ED K f s (tSl (rSlF K) te tl th) δ (Is s (.dat (.tuple (cutD ds lo hi)))) := fun G H σ Q sl b k =>
  h G H σ _ sl b fun v x s1 G1 H1 e1 j1 o1 p1 => by
    obtain ⟨rfl, rfl⟩ := p1
    cases o1 with
    | tup sq al =>
      rename_i ad xs
      refine h1 H1 σ _ (h2 H1 σ _ ⟨ad, xs, rfl, ex_t j1.ex sq, fun hw => ?_, fun hw q o ho hq => ?_⟩)
      · have e : cutD ds lo hi = ds := by
          unfold cutD
          rw [dpa_len al] at hw
          rw [hw.1, hw.2, List.drop_zero, Nat.sub_zero, List.take_length]
        rw [e] at k
        exact k _ (.dat (.tuple ds)) _ G1 H1 e1 j1 (show Dp K _ _ _ from .tup sq al) ⟨rfl, rfl⟩
      · exact fT (fun w z s' G2 H2 e3 => k w z s' G2 H2 (e1.trans e3)) j1 (dpa_cut al lo hi) ho hq
theorem od_catF {ds es : List PyData} (hl : ds.length + es.length ≤ 100000) : OD K f (rCatF K) s (.dat (.tuple ds)) (.dat (.tuple es)) (Is s (.dat (.tuple (ds ++ es)))) := fun G H v u Q jj a b k => by
  cases a with
  | tup sq al =>
    cases b with
    | tup sq2 al2 =>
      rename_i a1 xs a2 ys
      have hx : xs.length = ds.length := dpa_len al
      have hy : ys.length = es.length := dpa_len al2
      refine ⟨a1, a2, xs, ys, rfl, rfl, ex_t jj.ex sq, ex_t jj.ex sq2, sz_of (by omega), fun z => ?_, fun _ z => ?_, fun _ _ q o ho hq => ?_⟩
      · subst z
        cases al
        exact fD k jj (.tup sq2 al2)
      · subst z
        cases al2
        rw [List.append_nil] at k
        exact fD k jj (.tup sq al)
      · have app : ∀ {xs : List V} {ds : List PyData}, DpAll K G xs ds → DpAll K G (xs ++ ys) (ds ++ es) := by
          intro xs ds h
          exact Vs.dpa (by rw [List.map_append]; exact Vs.cat (Vs.of_dpa h) (Vs.of_dpa al2))
        exact fT k jj (app al) ho hq
/-! ### defs that draw -/
def spU (K : PySem.W.Frag) (A : Nat → List En → Prop) (R : Nat → List En → Nat → En → Prop) : Sp := fun vs H Q _ => ∃ p c n G es us, vs = .ref p :: us ∧ Ex G H ∧ TF G ∧ G p = none ∧ G c = none ∧ PurseAt H p c n ∧ Vs K G us es ∧ A n es ∧
  ∀ v x m G2 H2, Ex G G2 → Ex G2 H2 → TF G2 → G2 p = none → G2 c = none → PurseAt H2 p c m → (∀ b o, b ≠ p → b ≠ c → H b = some o → H2 b = some o) → (∀ b, G2 b ≠ none → G b = none → H b = none) → Ok K G2 v x → R n es m x → Q v H2
theorem J.pureU {G H G2 H2 : Hp} {n m : Nat} {r : List (Addr × List En)} {p c : Addr} (j : J K f ⟨n, r⟩ G H) (e : f.pu = some (p, c)) (e1 : Ex G G2) (e2 : Ex G2 H2) (t2 : TF G2) (g1 : G2 p = none) (g2 : G2 c = none) (u : PurseAt H2 p c m) (k : ∀ b o, b ≠ p → b ≠ c → H b = some o → H2 b = some o) (fr : ∀ b, G2 b ≠ none → G b = none → H b = none) : J K f ⟨m, r⟩ G2 H2 := by
  obtain ⟨_, _, hp, hc, hpu⟩ := j.pu p c e
  refine ⟨e2, fun D fs q => ?_, j.nd, fun p' c' e' => ?_, fun d o h1 h2 => ?_, j.g0.trans e1, fun b h1 h2 => ?_, t2⟩
  · obtain ⟨x1, x2, x3, xs, x4, x5⟩ := j.own D fs q
    refine ⟨?_, x2, x3, xs, k D _ (fun z => x3 ⟨p, c, e, .inl z⟩) (fun z => x3 ⟨p, c, e, .inr z⟩) x4, x5.mono e1⟩
    cases q2 : G2 D with
    | none => rfl
    | some o =>
      have := fr D (by rw [q2]; simp) x1
      rw [x4] at this
      cases this
  · rw [e] at e'
    cases e'
    exact ⟨g1, g2, hp, hc, u⟩
  · exact k d o (fun z => h1 ⟨p, c, e, .inl z⟩) (fun z => h1 ⟨p, c, e, .inr z⟩) (j.fr d o h1 h2)
  · cases q : G b with
    | some o => exact j.fs b (by rw [q]; simp) h2
    | none =>
      have h := fr b h1 q
      cases r' : f.H0 b with
      | none => rfl
      | some o =>
        by_cases hb : isPu f b
        · obtain ⟨p', c', e1', e2'⟩ := hb
          rw [e] at e1'
          cases e1'
          obtain ⟨cs, t, x, y, _⟩ := hpu.ex
          rcases e2' with e2' | e2'
          · rw [e2'] at h; rw [x] at h; cases h
          · rw [e2'] at h; rw [y] at h; cases h
        · have := j.fr b o hb r'
          rw [h] at this; cases this
theorem ed_callU {A : Nat → List En → Prop} {R : Nat → List En → Nat → En → Prop} {E : XK} {t : TA} {i : Nat} {p c : Addr} {PA : Sx → List En → Prop} {P : Sx → En → Prop} (hf : f.pu = some (p, c)) (hi : δ[i]? = some (.val (.ref p))) (h : EA K f s t δ PA)
    (a : ∀ s' es, PA s' es → ∃ n r, s' = ⟨n, r⟩ ∧ A n es ∧ ∀ m x, R n es m x → P ⟨m, r⟩ x) : ED K f s (tCall (spU K A R) [] E (tCons (tVar i) t)) δ P := fun G H σ Q sl b k => by
  obtain ⟨v, e0, o0⟩ := Slots.get sl hi rfl
  cases (show v = V.ref p from o0)
  refine ⟨_, e0, h G H σ _ sl b fun vs xs s1 G1 H1 e1 j1 o1 p1 => ?_⟩
  obtain ⟨n, r, rfl, ha, hR⟩ := a s1 xs p1
  obtain ⟨g1, g2, _, _, pu⟩ := j1.pu p c hf
  rw [List.append_nil]
  exact ⟨p, c, n, G1, xs, vs, rfl, j1.ex, j1.tf, g1, g2, pu, o1, ha, fun w x m G2 H2 x1 x2 x3 x4 x5 x6 x7 x8 x9 x10 => k w x ⟨m, r⟩ G2 H2 (e1.trans x1) (j1.pureU hf x1 x2 x3 x4 x5 x6 x7 x8) x9 (hR m x x10)⟩
theorem run_purse {A : Nat → List En → Prop} {R : Nat → List En → Nat → En → Prop} {N : List Str} {vs : List V} {H : Hp} {Q : VK} {E : XK} {t : TS} (h : spU K A R vs H Q E)
    (hb : ∀ f p c n es, f.pu = some (p, c) → A n es → SD K f ⟨n, []⟩ t (.val (.ref p) :: es ++ List.replicate (N.length - (es.length + 1)) .no) ⟨fun s' _ => R n es s'.n (.dat .none), fun s' x => R n es s'.n x, fun _ _ => False, fun _ _ => False⟩) : t { nx := fun _ H' => Q .non H', rt := Q } (L2.start N vs) H := by
  obtain ⟨p, c, n, G, es, us, rfl, e, tf, gp, gc, pu, v, a, k⟩ := h
  obtain ⟨cs, tt, x, y, _⟩ := id pu.ex
  have jj : J K ⟨some (p, c), H, G⟩ ⟨n, []⟩ G H := ⟨e, (fun D es m => by cases m), List.nodup_nil, (fun p' c' z => by
    cases z
    exact ⟨gp, gc, (by show H p ≠ none; rw [x]; simp), (by show H c ≠ none; rw [y]; simp), pu⟩), fun b o _ z => z, Ex.refl G, fun b h1 h2 => absurd h2 h1, tf⟩
  have v' : Vs K G (.ref p :: us) (.val (.ref p) :: es) := .cons rfl v
  have sl : Slots K G (L2.start N (.ref p :: us)) (.val (.ref p) :: es ++ List.replicate (N.length - (es.length + 1)) .no) := by
    unfold L2.start
    rw [v'.len]
    exact Slots.start v' _
  have np : ∀ b, b ≠ p → b ≠ c → ¬ isPu (⟨some (p, c), H, G⟩ : Fx) b := fun b h1 h2 ⟨p', c', z, q⟩ => by
    cases z
    rcases q with q | q
    · exact h1 q
    · exact h2 q
  refine hb ⟨some (p, c), H, G⟩ p c n es rfl a G H _ _ sl jj ⟨fun σ δ s' G2 H2 e2 j2 _ r => ?_, fun w x s' G2 H2 e2 j2 o r => ?_, fun _ _ _ _ _ _ _ _ z => z.elim, fun _ _ _ _ _ _ _ _ z => z.elim⟩
  · obtain ⟨g1, g2, _, _, pu2⟩ := j2.pu p c rfl
    exact k .non (.dat .none) s'.n G2 H2 e2 j2.ex j2.tf g1 g2 pu2 (fun b o n1 n2 z => j2.fr b o (np b n1 n2) z) j2.fs .non r
  · obtain ⟨g1, g2, _, _, pu2⟩ := j2.pu p c rfl
    exact k w x s'.n G2 H2 e2 j2.ex j2.tf g1 g2 pu2 (fun b o n1 n2 z => j2.fr b o (np b n1 n2) z) j2.fs o r
theorem spU_len {A : Nat → List En → Prop} {R : Nat → List En → Nat → En → Prop} {n : Nat} (hA : ∀ m es, A m es → es.length + 1 = n) (vs : List V) (H : Hp) (Q : VK) (E : XK) (h : spU K A R vs H Q E) : vs.length = n := by
  obtain ⟨p, c, m, G, es, us, rfl, _, _, _, _, _, v, a, _⟩ := h
  show us.length + 1 = n
  rw [v.len, hA m es a]
end
end Dl

namespace Dl
open PySem L2 Evl
section
variable {K : PySem.W.Frag} {f : Fx} {s : Sx} {δ : List En} {ta tb te tl to : TE} {tt tu : TT} {P R : Sx → En → Prop} {t u : TS} {p : Po} {n c : Nat} {D : Addr} {es : List En} {w : List (Addr × List En)}
theorem own_dpM {G H : Hp} {ds : List PyData} (hm : (D, ds.map .dat) ∈ s.own) (j : J K f s G H) : Dp K H (.ref D) (.list ds) := by
  obtain ⟨_, _, _, xs, e, v⟩ := j.own D _ hm
  exact .lst (sq_of e) (dpaMono j.ex (Vs.dpa v))
theorem od_neOwnM {d : PyData} {ds : List PyData} (hm : (D, ds.map .dat) ∈ s.own) (h1 : SeqAt.shaped d = true) (h2 : SeqAt.shaped (.list ds) = true) : OD K f (rNeD K) s (.val (.ref D)) (.dat d) (Is s (.dat (.bool (!PyData.eqv (.list ds) d)))) := fun G H u v Q jj b a c => by
  cases (show u = V.ref D from b)
  exact ⟨.list ds, d, own_dpM hm jj, dpMono jj.ex a, h2, h1, fD c jj (.bl _)⟩
theorem cd_lenOwnM (hm : (D, es) ∈ s.own) : CD K f (fun xs H Q => ∃ p ys, xs = [.ref p] ∧ (SqL K H p ys ∨ SqT K H p ys) ∧ Q (.int ys.length) H) s [.val (.ref D)] (Is s (.dat (.int es.length))) := fun G H vs Q jj a k => by
  cases a with
  | cons h t =>
    cases t
    cases (show _ = V.ref D from h)
    obtain ⟨_, _, _, xs, e, v⟩ := jj.own D _ hm
    refine ⟨D, xs, rfl, .inl (sq_of e), ?_⟩
    rw [v.len]
    exact fD k jj (.int _)
/-- tuple(e), e any list -/
theorem ed_tupleN {L : Sx → List PyData → Prop} (h : ED K f s te δ (fun s' x => ∃ rs, x = .dat (.list rs) ∧ L s' rs)) (k : ∀ s' rs, L s' rs → P s' (.dat (.tuple rs))) : ED K f s (tCB (rTupF K) (tCons te tNil)) δ P := fun G H σ Q sl b c =>
  h G H σ _ sl b fun v x s1 G1 H1 e1 j1 o1 p1 => by
    obtain ⟨rs, rfl, hL⟩ := p1
    refine cd_tuple G1 H1 [v] Q j1 (.cons o1 .nil) fun w z s' G2 H2 e2 j2 o2 p2 => ?_
    obtain ⟨rfl, rfl⟩ := p2
    exact c w _ _ G2 H2 (e1.trans e2) j2 o2 (k _ _ hL)
theorem ed_stateE {s2 : Sx} (h : ED K f s2 te δ P) (e : s2 = s) : ED K f s te δ P := e ▸ h
/-- if c: .. (that can't be) -/
theorem sd_whenX {PT : Sx → Bool → Prop} (h : ET K f s tt δ PT) (h1 : ∀ s1, PT s1 true → False) (h2 : ∀ s1, PT s1 false → SD K f s1 u δ p) : SD K f s (tSeq (tIfS tt t tNext) u) δ p := sd_when h (fun s1 q => (h1 s1 q).elim) h2
theorem ed_post (h : ED K f s te δ P) (k : ∀ s' x, P s' x → ∃ n a b r, s' = ⟨n, a :: b :: r⟩ ∧ R ⟨n, b :: a :: r⟩ x) : ED K f s te δ R := fun G H σ Q sl j c => h G H σ Q sl j fun v x s' G2 H2 e2 j2 o2 p2 => by
  obtain ⟨n, a, b, r, rfl, q⟩ := k s' x p2
  exact c v x _ G2 H2 e2 j2.swap o2 q
end
end Dl

namespace Dl
open PySem L2 Evl
section
variable {K : PySem.W.Frag} {f : Fx} {s : Sx} {G H G2 H2 : Hp}
/-- a scope of its own: all that stands is kept, the lists that are changed outside are not told inside -/
theorem J.enter {n : Nat} {r : List (Addr × List En)} (j : J K f ⟨n, r⟩ G H) : J K ⟨f.pu, H, G⟩ ⟨n, []⟩ G H :=
  ⟨j.ex, (fun D es m => by cases m), List.nodup_nil, (fun p c e => by
    obtain ⟨a, b, hp, hc, u⟩ := j.pu p c e
    obtain ⟨cs, t, x, y, _⟩ := id u.ex
    exact ⟨a, b, (by show H p ≠ none; rw [x]; simp), (by show H c ≠ none; rw [y]; simp), u⟩), fun b o _ z => z, Ex.refl G, fun b h1 h2 => absurd h2 h1, j.tf⟩
theorem J.leave {n m : Nat} {r : List (Addr × List En)} (j : J K f ⟨n, r⟩ G H) (k : J K ⟨f.pu, H, G⟩ ⟨m, []⟩ G2 H2) : J K f ⟨m, r⟩ G2 H2 := by
  have iso : ∀ b, isPu (⟨f.pu, H, G⟩ : Fx) b ↔ isPu f b := fun b => Iff.rfl
  have e1 : Ex G G2 := k.g0
  refine ⟨k.ex, fun D es q => ?_, j.nd, fun p c e => ?_, fun b o h1 h2 => k.fr b o (fun z => h1 z) (j.fr b o h1 h2), j.g0.trans e1, fun b h1 h2 => ?_, k.tf⟩
  · obtain ⟨x1, x2, x3, xs, x4, x5⟩ := j.own D es q
    refine ⟨?_, x2, x3, xs, k.fr D _ (fun z => x3 z) x4, x5.mono e1⟩
    cases q2 : G2 D with
    | none => rfl
    | some o =>
      have := k.fs D (by rw [q2]; simp) x1
      have this : H D = none := this
      rw [x4] at this
      cases this
  · obtain ⟨a, b, _, _, u⟩ := k.pu p c e
    obtain ⟨_, _, hp, hc, _⟩ := j.pu p c e
    exact ⟨a, b, hp, hc, u⟩
  · cases q : G b with
    | some o => exact j.fs b (by rw [q]; simp) h2
    | none =>
      have h : H b = none := k.fs b h1 q
      cases r' : f.H0 b with
      | none => rfl
      | some o =>
        by_cases hb : isPu f b
        · obtain ⟨p', c', e1', e2'⟩ := hb
          obtain ⟨_, _, _, _, ⟨cs, t, x, y, _⟩⟩ := j.pu p' c' e1'
          rcases e2' with e2' | e2'
          · rw [e2'] at h; rw [x] at h; cases h
          · rw [e2'] at h; rw [y] at h; cases h
        · have := j.fr b o hb r'
          rw [h] at this; cases this
end
section
variable {K : PySem.W.Frag} {f : Fx} {s : Sx} {δ : List En} {ta tb te tl to : TE} {tt tu : TT} {P R : Sx → En → Prop} {t u : TS} {p : Po} {n c : Nat} {D : Addr} {es : List En} {w : List (Addr × List En)}
/-- for x in xs, a list that is changed elsewhere, not here; no return in it -/
theorem sd_forOwn {i0 j : Nat} (hi : δ[i0]? = some (.val (.ref D))) (hm : (D, es) ∈ w) (W : Nat → Nat → List En → Prop) (h0 : W 0 n δ)
    (hs : ∀ f' i x n' δ', f'.pu = f.pu → es[i]? = some x → W i n' δ' → SD K f' ⟨n', []⟩ t (δ'.set j x) ⟨fun s' δ2 => s'.own = [] ∧ W (i + 1) s'.n δ2, fun _ _ => False, fun _ _ => False, fun s' δ2 => s'.own = [] ∧ W (i + 1) s'.n δ2⟩)
    (hd : ∀ n' δ', W es.length n' δ' → p.nx ⟨n', w⟩ δ') : SD K f ⟨n, w⟩ (tFor (iList K (tVar i0)) (gName j) t) δ p := fun G H σ Dd a b cc => by
  obtain ⟨v, e0, o1⟩ := Slots.get a hi rfl
  cases (show v = V.ref D from o1)
  obtain ⟨g1, g2, g3, xs, hx, vv⟩ := b.own D es hm
  have np : ¬ isPu (⟨f.pu, H, G⟩ : Fx) D := fun z => g3 z
  refine ⟨_, e0, D, rfl, ⟨xs, sq_of hx⟩, for_list (xs := xs) (fun i σ' H' => ∃ n' δ' G', Ex G G' ∧ J K ⟨f.pu, H, G⟩ ⟨n', []⟩ G' H' ∧ Slots K G' σ' δ' ∧ W i n' δ') ⟨n, δ, G, Ex.refl G, b.enter, a, h0⟩ (fun i σ' H' _ hp => ?_) (fun i y σ' H' hy hp => ?_) (fun σ' H' hp => ?_)⟩
  · obtain ⟨n', δ', G', eg, jj, _⟩ := hp
    exact sq_of (jj.fr D _ np hx)
  · obtain ⟨n', δ', G', eg, jj, sl, hw⟩ := hp
    obtain ⟨x, hx', ox⟩ := Vs.getV vv hy
    refine hs ⟨f.pu, H, G⟩ i x n' δ' rfl hx' hw G' H' _ _ (Slots.set (SOk.of (ox.mono eg)) j sl) jj ⟨fun σ2 δ2 s2 G2 H2 e2 j2 sl2 q => ?_, fun _ _ _ _ _ _ _ _ z => z.elim, fun _ _ _ _ _ _ _ _ z => z.elim, fun σ2 δ2 s2 G2 H2 e2 j2 sl2 q => ?_⟩
    · obtain ⟨m, o⟩ := s2
      cases q.1
      exact ⟨m, δ2, G2, eg.trans e2, j2, sl2, q.2⟩
    · obtain ⟨m, o⟩ := s2
      cases q.1
      exact ⟨m, δ2, G2, eg.trans e2, j2, sl2, q.2⟩
  · obtain ⟨n', δ', G', eg, jj, sl, hw⟩ := hp
    rw [vv.len] at hw
    exact cc.nx σ' δ' _ G' H' eg (b.leave jj) sl (hd n' δ' hw)
/-- isinstance(xs, list) of such a list -/
theorem cd_isLstOwn (hm : (D, es) ∈ s.own) : CD K f (rIsi K) s [.val (.ref D), .val (.ty "list")] (Is s (.dat (.bool true))) := fun G H vs Q jj a k => by
  cases a with
  | cons h1 t =>
    cases t with
    | cons h2 t =>
      cases t
      cases (show _ = V.ref D from h1)
      cases (show _ = V.ty "list" from h2)
      obtain ⟨_, _, _, xs, hx, _⟩ := jj.own D es hm
      exact ⟨_, _, _, _, true, rfl, .ty "list", .base (.lst hx), kit_ty (by decide +kernel), fD k jj (.bl _)⟩
/-- x is not True -/
theorem od_isnotBl {a b : Bool} : OD K f (fun x y H Q => ∃ a b, x = .bl a ∧ y = .bl b ∧ Q (.bl (!decide (a = b))) H) s (.dat (.bool a)) (.dat (.bool b)) (Is s (.dat (.bool (!decide (a = b))))) := fun G H v u Q jj x y k => by
  cases x
  cases y
  exact ⟨a, b, rfl, rfl, fD k jj (.bl _)⟩
end
end Dl

namespace Dl
open PySem L2 Evl
section
variable {K : PySem.W.Frag} {f : Fx} {s : Sx} {δ : List En} {ta tb te tl to : TE} {tt tu : TT} {P R : Sx → En → Prop} {t u : TS} {p : Po} {n c : Nat} {D : Addr} {es : List En} {r w : List (Addr × List En)} {tab : List (List Int × Str)}
/-- a new list of a table's keys -/
def spKeys (K : PySem.W.Frag) (tab : List (List Int × Str)) : Sp := fun vs H Q _ => vs = [] ∧ ∀ p bs, H p = none → Paired (fun b (y : List Int × Str) => tupInK K b y.1 = true) bs tab → Q (.ref p) (upd H p (.lst (bs.map V.ref)))
theorem keys_dpa {G : Hp} {bs : List Addr} (h : Paired (fun b (y : List Int × Str) => tupInK K b y.1 = true) bs tab) : DpAll K G (bs.map V.ref) ((tab.map (·.1)).map tupD) := by
  induction h with
  | nil => exact .nil
  | cons a _ ih => exact .cons (dpT a G) ih
theorem sd_keysNew {i : Nat} {E : XK} (k : ∀ D, SD K f ⟨s.n, (D, ((tab.map (·.1)).map tupD).map .dat) :: s.own⟩ u (δ.set i (.val (.ref D))) p) : SD K f s (tSeq (tAsg (tCall (spKeys K tab) [] E tNil) (gName i)) u) δ p := fun G H σ Dd a b cc =>
  ⟨rfl, fun q bs hq hb => k q G _ _ Dd (Slots.set (SOk.of (show Ok K G (.ref q) (.val (.ref q)) from rfl)) i a) (b.ownNew hq (Vs.of_dpa (keys_dpa hb))) cc⟩
theorem ed_keys {E : XK} : ED K f s (tCall (spKeys K tab) [] E tNil) δ (Is s (.dat (.list ((tab.map (·.1)).map tupD)))) := fun G H σ Q a b c =>
  ⟨rfl, fun q bs hq hb => fL c b (keys_dpa hb) hq⟩
/-- xs[i] = e, the place drawn -/
theorem sd_setOwnN {i : Nat} {x : En} {P : Sx → En → Prop} (hi : δ[i]? = some (.val (.ref D))) (h : ED K f ⟨n, (D, es) :: r⟩ te δ (Is ⟨n, (D, es) :: r⟩ x)) (hj : ED K f ⟨n, (D, es) :: r⟩ tb δ P)
    (k : ∀ s' y, P s' y → ∃ m j, s' = ⟨m, (D, es) :: r⟩ ∧ y = .dat (.int ((j : Nat) : Int)) ∧ j < es.length ∧ p.nx ⟨m, (D, es.set j x) :: r⟩ δ) :
    SD K f ⟨n, (D, es) :: r⟩ (tAsg te (gSub (tVar i) tb rSetL)) δ p := fun G H σ Dd a b c =>
  h G H σ _ a b fun v y s1 G1 H1 e1 j1 o1 p1 => by
    obtain ⟨rfl, rfl⟩ := p1
    obtain ⟨w, e0, o0⟩ := Slots.get (Slots.mono e1 a) hi rfl
    cases (show w = V.ref D from o0)
    refine ⟨_, e0, hj G1 H1 σ _ (Slots.mono e1 a) j1 fun u z s2 G2 H2 e2 j2 o2 p2 => ?_⟩
    obtain ⟨m, j, rfl, rfl, hl, hk⟩ := k s2 z p2
    cases o2
    obtain ⟨_, _, _, xs, e, vv⟩ := j2.own D _ (List.mem_cons_self ..)
    exact ⟨D, xs, (j : Int), j, rfl, rfl, e, Evl.ixN_nat (by rw [vv.len]; exact hl), c.nx σ δ _ G2 _ (e1.trans e2) (j2.ownSet (Vs.setAt j vv (o1.mono e2))) (Slots.mono (e1.trans e2) a) hk⟩
theorem sd_clear {i : Nat} (hi : δ[i]? = some (.val (.ref D))) (k : p.nx ⟨n, (D, []) :: r⟩ δ) : SD K f ⟨n, (D, es) :: r⟩ (tDrop (tBM0 K "list" rClear (tVar i))) δ p := fun G H σ Dd a b c => by
  obtain ⟨v, e0, o1⟩ := Slots.get a hi rfl
  cases (show v = V.ref D from o1)
  obtain ⟨_, _, _, xs, e, vv⟩ := b.own D _ (List.mem_cons_self ..)
  exact ⟨_, e0, Or.inl ⟨rfl, xs, sq_of e⟩, D, xs, rfl, rfl, e, c.nx σ δ _ G _ (Ex.refl G) (b.ownSet (es' := []) .nil) a k⟩
/-- the list on top is forgotten -/
theorem sd_forget (h : SD K f ⟨n, r⟩ t δ p) : SD K f ⟨n, (D, es) :: r⟩ t δ p := fun G H σ Dd a b c => h G H σ Dd a b.ownDrop c
/-- .. behind a statement -/
theorem sd_forgetN (h : SD K f s t δ { p with nx := fun s' δ' => ∃ n D es r, s' = ⟨n, (D, es) :: r⟩ ∧ p.nx ⟨n, r⟩ δ' }) : SD K f s t δ p := fun G H σ Dd a b c => h G H σ Dd a b ⟨fun σ' δ' s' G2 H2 e2 j2 sl q => by
  obtain ⟨n, D, es, r, rfl, q⟩ := q
  exact c.nx σ' δ' _ G2 H2 e2 j2.ownDrop sl q, c.rt, c.bk, c.ct⟩
end
end Dl

namespace Dl
open PySem L2 Evl
/-! ### data of small depth: str of it -/
def okN : Nat → PyData → Bool
  | 0, _ => false
  | _ + 1, .none => true
  | _ + 1, .bool _ => true
  | _ + 1, .int i => decide (i.natAbs.log2 < 1920)
  | _ + 1, .str x => (decide (x.length ≤ 100) && x.cps.toList.all fun c => decide (c < 16 ^ 8)) && PyData.strOk x
  | k + 1, .list xs => decide (xs.length ≤ 20) && xs.all (okN k)
  | k + 1, .tuple xs => decide (xs.length ≤ 20) && xs.all (okN k)
  | _ + 1, .dict _ => false
def bN : Nat → Nat
  | 0 => 0
  | 1 => 2000
  | k + 1 => 3 + 20 * (bN k + 2)
theorem bN_pos : ∀ k, 2000 ≤ bN (k + 1)
  | 0 => Nat.le_refl _
  | k + 1 => by
    have := bN_pos k
    show 2000 ≤ 3 + 20 * (bN (k + 1) + 2)
    omega
theorem all_show : ∀ {xs : List PyData}, (∀ x ∈ xs, x.showable = true) → PyData.showableAll xs = true
  | [], _ => by simp [PyData.showableAll]
  | x :: xs, h => by
    simp only [PyData.showableAll, Bool.and_eq_true]
    exact ⟨h x (List.mem_cons_self ..), all_show fun y hy => h y (List.mem_cons_of_mem _ hy)⟩
theorem all_lay : ∀ {xs : List PyData}, (∀ x ∈ xs, x.canLay0 = true) → PyData.canLayAll0 xs = true
  | [], _ => by simp [PyData.canLayAll0]
  | x :: xs, h => by
    simp only [PyData.canLayAll0, Bool.and_eq_true]
    exact ⟨h x (List.mem_cons_self ..), all_lay fun y hy => h y (List.mem_cons_of_mem _ hy)⟩
theorem all_depth {k : Nat} : ∀ {xs : List PyData}, (∀ x ∈ xs, x.depth ≤ k) → PyData.depthAll xs ≤ k
  | [], _ => by simp [PyData.depthAll]
  | x :: xs, h => by
    have h1 := h x (List.mem_cons_self ..)
    have h2 := all_depth (xs := xs) fun y hy => h y (List.mem_cons_of_mem _ hy)
    simp only [PyData.depthAll]
    omega
theorem piled_le {b : Nat} : ∀ {xs : List PyData}, (∀ x ∈ xs, x.shown.length ≤ b) → piled (PyData.shownAll xs) ≤ xs.length * (b + 2)
  | [], _ => by simp [PyData.shownAll, piled]
  | x :: xs, h => by
    have h1 := h x (List.mem_cons_self ..)
    have h2 := piled_le (xs := xs) fun y hy => h y (List.mem_cons_of_mem _ hy)
    simp only [PyData.shownAll, piled_cons, List.length_cons, Nat.add_mul, Nat.one_mul] at h2 ⊢
    omega
theorem shownAll_len : ∀ xs : List PyData, (PyData.shownAll xs).length = xs.length
  | [] => by simp [PyData.shownAll]
  | x :: xs => by simp [PyData.shownAll, shownAll_len xs]
theorem join_le (ts : List Str) : (Str.join ", " ts).length ≤ piled ts := by
  cases ts with
  | nil => decide +kernel
  | cons x r =>
    have := join_length_add (x :: r) (by simp)
    omega
theorem okN_ok : ∀ (k : Nat) (d : PyData), okN k d = true → d.showable = true ∧ d.canLay0 = true ∧ d.depth ≤ k ∧ d.shown.length ≤ bN k
  | 0, _, h => by cases h
  | k + 1, .none, _ => ⟨by simp [PyData.showable], by simp [PyData.canLay0], by simp [PyData.depth], by
      have := bN_pos k
      have e : (PyData.shown .none).length = 4 := by simp only [PyData.shown]; decide +kernel
      omega⟩
  | k + 1, .bool b, _ => ⟨by simp [PyData.showable], by simp [PyData.canLay0], by simp [PyData.depth], by
      have := bN_pos k
      have e : (PyData.shown (.bool b)).length ≤ 5 := by cases b <;> (simp only [PyData.shown]; decide +kernel)
      omega⟩
  | k + 1, .int i, h => by
    have h' : i.natAbs.log2 < 1920 := of_decide_eq_true h
    refine ⟨by simpa [PyData.showable] using h', by simp [PyData.canLay0], by simp [PyData.depth], ?_⟩
    have := bN_pos k
    have e := PyProof.Rows.int_text_len_1921 h'
    have e2 : (PyData.shown (.int i)).length ≤ 1921 := by simp only [PyData.shown]; exact e
    omega
  | k + 1, .str x, h => by
    obtain ⟨h, h5⟩ := Bool.and_eq_true_iff.mp h
    obtain ⟨h1, h2⟩ := Bool.and_eq_true_iff.mp h
    refine ⟨by simp [PyData.showable], by simpa [PyData.canLay0] using h5, by simp [PyData.depth], ?_⟩
    have := bN_pos k
    have e := StrLaws.reprText_len x (fun c hc => of_decide_eq_true (List.all_eq_true.mp h2 c hc))
    have h3 := of_decide_eq_true h1
    have e2 : (PyData.shown (.str x)).length ≤ 10 * x.length + 2 := by simp only [PyData.shown]; exact e
    omega
  | k + 1, .list xs, h => by
    obtain ⟨h1, h2⟩ := Bool.and_eq_true_iff.mp (show (decide (xs.length ≤ 20) && xs.all (okN k)) = true from h)
    have h3 := of_decide_eq_true h1
    have ih := fun x hx => okN_ok k x (List.all_eq_true.mp h2 x hx)
    refine ⟨?_, ?_, ?_, ?_⟩
    · simp only [PyData.showable]; exact all_show fun x hx => (ih x hx).1
    · simp only [PyData.canLay0]; exact all_lay fun x hx => (ih x hx).2.1
    · have := all_depth (k := k) fun x hx => (ih x hx).2.2.1
      simp only [PyData.depth]; omega
    · have p := piled_le (b := bN k) fun x hx => (ih x hx).2.2.2
      have j := join_le (PyData.shownAll xs)
      simp only [PyData.shown]
      rw [listText_eq_join, strLen_append, strLen_append]
      have e1 : ((("[" : String) : Str)).length = 1 := rfl
      have e2 : ((("]" : String) : Str)).length = 1 := rfl
      rw [e1, e2]
      cases k with
      | zero =>
        cases xs with
        | nil =>
          have e0 : (Str.join ", " (PyData.shownAll [])).length = 0 := by simp only [PyData.shownAll]; decide +kernel
          show _ ≤ 2000
          rw [e0]
          omega
        | cons x r => have := (List.all_eq_true.mp h2 x (List.mem_cons_self ..)); cases this
      | succ k =>
        show _ ≤ 3 + 20 * (bN (k + 1) + 2)
        have q : xs.length * (bN (k + 1) + 2) ≤ 20 * (bN (k + 1) + 2) := Nat.mul_le_mul_right _ h3
        omega
  | k + 1, .tuple xs, h => by
    obtain ⟨h1, h2⟩ := Bool.and_eq_true_iff.mp (show (decide (xs.length ≤ 20) && xs.all (okN k)) = true from h)
    have h3 := of_decide_eq_true h1
    have ih := fun x hx => okN_ok k x (List.all_eq_true.mp h2 x hx)
    refine ⟨?_, ?_, ?_, ?_⟩
    · simp only [PyData.showable]; exact all_show fun x hx => (ih x hx).1
    · simp only [PyData.canLay0]; exact all_lay fun x hx => (ih x hx).2.1
    · have := all_depth (k := k) fun x hx => (ih x hx).2.2.1
      simp only [PyData.depth]; omega
    · have p := piled_le (b := bN k) fun x hx => (ih x hx).2.2.2
      have j := join_le (PyData.shownAll xs)
      simp only [PyData.shown]
      unfold tupleText
      rw [strLen_append, strLen_append]
      have e1 : ((("(" : String) : Str)).length = 1 := rfl
      have e2 : (((if (PyData.shownAll xs).length == 1 then ",)" else ")" : String) : Str)).length ≤ 2 := by split <;> decide
      rw [e1]
      cases k with
      | zero =>
        cases xs with
        | nil =>
          have e0 : (Str.join ", " (PyData.shownAll [])).length = 0 := by simp only [PyData.shownAll]; decide +kernel
          show _ ≤ 2000
          rw [e0]
          omega
        | cons x r => have := (List.all_eq_true.mp h2 x (List.mem_cons_self ..)); cases this
      | succ k =>
        show _ ≤ 3 + 20 * (bN (k + 1) + 2)
        have q : xs.length * (bN (k + 1) + 2) ≤ 20 * (bN (k + 1) + 2) := Nat.mul_le_mul_right _ h3
        omega
  | _ + 1, .dict _, h => by cases h
theorem okN_shaped {k : Nat} {d : PyData} (h : okN k d = true) (hk : k ≤ 64) : SeqAt.shaped d = true := by
  obtain ⟨_, h2, h3, _⟩ := okN_ok k d h
  unfold SeqAt.shaped
  rw [Bool.and_eq_true, decide_eq_true_eq]
  exact ⟨h2, by omega⟩
/-- str(x) of data -/
def strD : PyData → Str
  | .str x => x
  | d => d.shown
def rStrD (K : PySem.W.Frag) : List V → Hp → VK → Prop := fun xs H Q => ∃ x d, xs = [x] ∧ Dp K H x d ∧ okN 4 d = true ∧ Q (.str (strD d)) H
theorem call_strD {X : Cx} (hg : X.A.guards = some []) (hu : X.A.units + 64 < cLine) : CallR X (.type "str") (rStrD X.K) := by
  intro pins s σ H xs us Q I r h
  obtain ⟨x, d, rfl, hd, ok, q⟩ := h
  obtain ⟨h1, h2, h3, h4⟩ := okN_ok 4 d ok
  obtain ⟨u, rfl, ru⟩ := vals1 r
  obtain ⟨as, rd⟩ := Dp.reads I d x u hd ru
  have b4 : bN 4 ≤ sizeLine := by decide
  have deep : ∀ a, u = .ref a → strD d = d.shown → wpAny (model X.prog X.w) X.A (call (.type "str") [u]) (EP X pins σ Q) X.xe s := fun a ea es => by
    subst ea
    refine str_of_reads (h₀ := s.heap) rd h1 (PyData.noDict_hsm (PyData.hasDict_of_canLay d h2)) hg (by omega) (fun _ _ z => z) (fun h' t tk hk => ?_) (Nat.le_trans h4 b4)
    rw [es] at q
    exact ⟨.str d.shown, H, I.kept hk, ⟨t, rfl⟩, q⟩
  cases hd with
  | non => cases ru; exact PySem.P.str_of_none ⟨.str "None", H, I.tok _, ⟨_, rfl⟩, q⟩
  | bl b => cases ru; exact PySem.P.str_of_bool ⟨.str _, H, I.tok _, ⟨_, rfl⟩, q⟩
  | int i =>
    obtain ⟨t, rfl⟩ := ru
    exact PySem.P.str_of_int (of_decide_eq_true ok) ⟨.str _, H, I.tok _, ⟨_, rfl⟩, q⟩
  | str z =>
    obtain ⟨t, rfl⟩ := ru
    exact PySem.P.str_of_str ⟨.str z, H, I, ⟨_, rfl⟩, q⟩
  | lst _ _ => cases ru; exact deep _ rfl rfl
  | tup _ _ => cases ru; exact deep _ rfl rfl
theorem cd_strD {K : PySem.W.Frag} {f : Fx} {s : Sx} {d : PyData} (h : okN 4 d = true) : CD K f (rStrD K) s [.dat d] (Is s (.dat (.str (strD d)))) := fun G H vs Q jj a k => by
  cases a with
  | cons h1 t =>
    cases t
    exact ⟨_, d, rfl, dpMono jj.ex h1, h, fD k jj (.str _)⟩
end Dl

/-! A law's own def, called by the claim itself: nothing is being written out as text there (guards). -/
namespace Dl
open PySem PySem.Spec PyProof.Rows L2
structure FnAt (P : Program) (w : World) (K : PySem.W.Frag) (mg : Str → Option Value) (base : Heap) (f : Addr) (fd : FuncData) (x : Str) (sp : Sp) : Prop where
  run : ∀ (s : Shared) (H : Hp) (u : Value) (v : V) (Q : VK), Env0 P w K mg base callerA [] s H → BindsTo s fd ⟨[u], []⟩ [(x, u)] → RelV v u → sp [v] H Q (fun _ _ _ => False) →
    codeAny (model P w) callerA (.call (.ref f) ⟨[u], []⟩) (CR CX0 [] P w H s Q fun _ _ _ => False) s
/-- from the body, where guards are told -/
theorem fnAt_of {P : Program} {w : World} {K : PySem.W.Frag} {mg : Str → Option Value} {base : Heap} {k : Nat} {x0 qual : Str} {st : Stmt} {f : Addr} {fd : FuncData} {N : List Str} {x : Str} {sp : Sp} (F : Fun K x0 qual st f fd) (S : FnScope N [x] (defScope st)) (hr : Room (k + 1) callerA) (len : ∀ vs H Q E, sp vs H Q E → vs.length = 1)
    (hbody : ∀ (cdv : Value) (s : Shared) (H : Hp) (vs : List V) (Q : VK) (E : XK), Room k (callerA.deeper (envOfC qual (defScope st) s.heap.objs.size f cdv)) → sp vs H Q E →
      ∃ t, PSs (cxOf CX0 P w K mg base N qual (defScope st) f cdv callerA [] s H E).nox (defBody st) t ∧ t { nx := fun _ H' => Q .non H', rt := Q } (L2.start N vs) H) : FnAt P w K mg base f fd x sp := by
  obtain ⟨oc, od, kV, doc, pm, an, cdv, ct, osl, rfl, lk, hcd⟩ := F.ex
  refine ⟨fun s H u v Q e0 hb r hsp => ?_⟩
  have KX : K.In s.heap := e0.mod.kin.keeps fun b o e => (e0.bs b o e).1
  have hlm : s.heap.NoLimit := e0.mod.nolimit.keeps fun b o e => (e0.bs b o e).1
  have hkd : ∀ y ∈ [(x, u)], (defScope st).names.lookup y.1 = some .local ∨ ((defScope st).names.lookup y.1 = some .cell ∧ ((cellsFrom (s.heap.objs.size + 1) (defScope st).names []).lookup y.1).isSome = true) := fun ⟨n, z⟩ hy => by
    cases List.mem_singleton.mp hy
    rcases S.par x (List.mem_singleton.mpr rfl) with q | q
    · exact .inl q
    · exact .inr ⟨q, PySem.W.cellsFrom_some _ _ _ (.inl q)⟩
  refine codeAny_call_function hr.depth (KX _ _ lk) rfl S.co S.gen rfl (PySem.W.codeRec_of KX hcd) (hb _ _ _ _ ?_)
  refine wpAny_newFunctionEnv_cells S.kind hkd fun env he s1 ic => ?_
  subst he
  refine ⟨hlm.keeps ic.toInCall.keep, codeAny_func ?_⟩
  obtain ⟨t, ht0, hq⟩ := hbody cdv s H [v] Q (fun _ _ _ => False) (hr.deeper _) hsp
  have ht := ht0.nox
  have I0 : L2.Inv (cxOf CX0 P w K mg base N qual (defScope st) f cdv callerA [] s H fun _ _ _ => False) [] (L2.start N [v]) H s1 := inv_start S hr.hd e0 rfl (.cons r .nil) ic
  refine wpAny_mono (ht.run [] s1 (L2.start N [v]) H _ I0 hq) (fun fl s' hs => ?_) fun e s' hs => hs
  cases fl with
  | ret u =>
    obtain ⟨v', σ', H', J', rv, q⟩ := hs
    exact ⟨v', H', J'.os, J'.bare, J'.base, J'.hok, rv, q⟩
  | next =>
    obtain ⟨σ', H', J', q⟩ := hs
    exact ⟨V.non, H', J'.os, J'.bare, J'.base, J'.hok, rfl, q⟩
  | brk => obtain ⟨_, _, _, q⟩ := hs; exact q.elim
  | cont => obtain ⟨_, _, _, q⟩ := hs; exact q.elim
theorem law_at {P : Program} {w : World} {K : PySem.W.Frag} {mg mb : Str → Option Value} {fa a : Addr} {fd : FuncData} {x : Str} {sp : Sp} {s₁ : Shared} {vs : List Value} {ns : List Int}
    (KX : K.In s₁.heap) (hns : s₁.heap.Ns mainGlobals mg) (hb : s₁.heap.Ns builtinsNs mb) (hbb : ∀ x : Str, x ≠ "__name__" → mb x = bootBuiltins x) (hlim : s₁.heap.NoLimit) (hg : s₁.gens = #[])
    (ha : s₁.heap.get? a = some { cls := .type "list", data := .seq vs.toArray }) (hi : IntsAre vs ns) (hl : ns.length ≤ sizeLine)
    (F : ∀ base : Heap, K.In base → base.Ns mainGlobals mg → FnAt P w K mg base fa fd x sp) (hbind : ∀ (s : Shared) (u : Value), BindsTo s fd ⟨[u], []⟩ [(x, u)])
    (hsp : ∀ H : Hp, Only H → SqL K H a (ns.map V.int) → sp [.ref a] H (fun v _ => v = .bl true) fun _ _ _ => False) :
    codeAny (model P w) callerA (.call (.ref fa) ⟨[.ref a], []⟩) (fun r s' => r = .ok (.ret (.bool true)) ∧ OldK s₁.heap s'.heap ∧ s'.os = s₁.os ∧ AllBare s'.gens) s₁ := by
  have rv := vals_ints hi
  have lenV := hi.length
  have main : ∀ H : Hp, Only H → SqL K H a (ns.map V.int) → HOk P w H s₁.heap → (∀ b, H b ≠ none → b = a) → (H a ≠ none → K.lookup a = none) →
      codeAny (model P w) callerA (.call (.ref fa) ⟨[.ref a], []⟩) (fun r s' => r = .ok (.ret (.bool true)) ∧ OldK s₁.heap s'.heap ∧ s'.os = s₁.os ∧ AllBare s'.gens) s₁ := by
    intro H hO hS hok hA hK
    have noA : ∀ {b : Addr} {o : Obj} {es : Array DictEntry} {ep : Nat}, s₁.heap.get? b = some o → o.data = .dict es ep → H b = none := fun {b o es ep} e d => by
      cases q : H b with
      | none => rfl
      | some u =>
        cases hA b (by rw [q]; simp)
        rw [ha] at e; cases e
        exact nomatch (show Data.seq vs.toArray _ = Data.dict es ep from d)
    have nsK : ∀ {b : Addr} {m : Str → Option Value}, s₁.heap.Ns b m → (hidT s₁.heap H).Ns b m := fun {b m} ⟨o, es, ep, e, d, r⟩ => ⟨o, es, ep, hidT_get e (noA e d), d, r⟩
    have hKb : K.In (hidT s₁.heap H) := fun b o e => hidT_get (KX b o e) (by
      cases q : H b with
      | none => rfl
      | some u =>
        cases hA b (by rw [q]; simp)
        rw [hK (by rw [q]; simp)] at e; cases e)
    have hM : Mod K mg (hidT s₁.heap H) := ⟨hKb, nsK hns, ⟨mb, nsK hb, hbb⟩, let ⟨mc, h1, h2⟩ := hlim; ⟨mc, nsK h1, h2⟩⟩
    have e0 : Env0 P w K mg (hidT s₁.heap H) callerA [] s₁ H := ⟨rfl, hM, fun b o e => of_hidT e, Nat.le_of_eq (hidT_size _ _), trivial, fun b hb => absurd (show b ∈ ([] : List Addr) from hb) (by simp), hok, .of_eq hg⟩
    refine codeAny_mono ((F _ hKb (nsK hns)).run s₁ H (.ref a) (.ref a) _ e0 (hbind s₁ (.ref a)) rfl (hsp H hO hS)) fun r s' h => ?_
    cases r with
    | error e => exact h.elim
    | ok fl =>
      cases fl with
      | next => exact False.elim h
      | brk => exact False.elim h
      | cont => exact False.elim h
      | ret u =>
        obtain ⟨v, H', os, bare, un, hok', r', q⟩ := h
        cases (show v = .bl true from q)
        cases (show u = Value.bool true from r')
        refine ⟨rfl, OldK.of_keep fun b o e => ?_, os, bare⟩
        cases q : H b with
        | none => exact un.keep b o e q (by intro z; exact absurd (show b ∈ ([] : List Addr) from z) (by simp)) (by simp)
        | some u =>
          rcases hO b with z | ⟨ob, xs, z⟩
          · rw [q] at z; cases z
          · obtain ⟨e1, _⟩ := hok b _ z
            obtain ⟨e2, _⟩ := hok' b _ (un.frzs b ob _ z)
            rw [e] at e1; cases e1
            exact e2
  cases hk : K.lookup a with
  | some o =>
    have e := KX a o hk
    rw [ha] at e
    cases e
    exact main (fun _ => none) (fun _ => .inl rfl) (.inr ⟨_, vs.toArray, _, hk, rfl, rfl, rfl, by rw [List.size_toArray, lenV]; exact hl, by simpa using rv⟩) (fun b u z => nomatch (show (none : Option HO) = some u from z)) (fun b z => absurd rfl z) fun z => absurd rfl z
  | none =>
    refine main (fun b => if b = a then some (.frz { cls := .type "list", data := .seq vs.toArray } (.lst (ns.map V.int))) else none) (fun b => ?_) (.inl (.inr ⟨{ cls := .type "list", data := .seq vs.toArray }, if_pos rfl⟩)) (fun b u z => ?_) (fun b z => ?_) fun _ => hk
    · by_cases hb : b = a
      · exact .inr ⟨_, _, if_pos hb⟩
      · exact .inl (if_neg hb)
    · by_cases hb : b = a
      · cases (if_pos hb).symm.trans z
        subst hb
        exact ⟨ha, by rw [List.length_map]; exact hl, vs, _, rv, ha⟩
      · cases (if_neg hb).symm.trans z
    · by_cases hb : b = a
      · exact hb
      · exact absurd (if_neg hb) z
theorem walk_at {l : PySem.W.OpenLaw} {n : Nat} {q : Program} {loose : List Str} {XP : (Str → Option Value) → Heap → Prop} {YP : World → Heap → Prop} {d : DefRec} {K : Params → PySem.W.Frag} {sp : World → Sp} {x : Str}
    (hn : l.most = some n) (hn2 : n ≤ sizeLine) (hdf : d.params.defaults = []) (hY : ∀ (w : World) (h : Heap), YP w h → (K w.params).In h)
    (F : ∀ (w : World) (mg : Str → Option Value) (fa : Addr) (h : Heap), (K w.params).In h → h.Ns mainGlobals mg → mg d.name = some (.ref fa) →
      ∃ fd : FuncData, (∀ (s : Shared) (u : Value), BindsTo s fd ⟨[u], []⟩ [(x, u)]) ∧ ∀ base : Heap, (K w.params).In base → base.Ns mainGlobals mg → FnAt l.prog w (K w.params) mg base fa fd x (sp w))
    (hsp : ∀ (w : World) (H : Hp) (a : Addr) (ns : List Int), ns.length ≤ n → Only H → SqL (K w.params) H a (ns.map V.int) → sp w [.ref a] H (fun v _ => v = .bl true) fun _ _ _ => False) :
    PySem.W.WalkO q loose XP YP l.row.toRowW d [] (fun f vs => PySem.call f vs) := by
  refine Att.attach_call hn hdf fun w s₀ s₁ mg mb fa o pm cd doc a vs ns G Y ho hd hcd hmg hobj hints hlen hg => ?_
  have KX := hY w _ Y
  obtain ⟨fd, hb, hF⟩ := F w mg fa _ KX G.T.g hmg
  exact law_at KX G.T.g G.T.b G.T.builtins G.T.nolimit hg hobj hints (Nat.le_trans hlen hn2) hF hb fun H hO hS => hsp w H a ns hlen hO hS
end Dl

namespace Dl
open PySem L2 Evl
section
variable {K : PySem.W.Frag} {f : Fx} {s : Sx} {δ : List En} {ta tb te tl to : TE} {tt tu : TT} {P R : Sx → En → Prop} {t u : TS} {p : Po} {n c : Nat} {D : Addr} {es : List En} {r w : List (Addr × List En)}
/-! ### bounds of slices -/
def EO (K : PySem.W.Frag) (f : Fx) (s : Sx) (tl : TO) (δ : List En) (lo : Option Int) : Prop :=
  ∀ G H σ (Q : Option Int → Hp → Prop), Slots K G σ δ → J K f s G H → (∀ G2 H2, Ex G G2 → J K f s G2 H2 → Q lo H2) → tl σ H Q
theorem eo_none : EO K f s tNoPart δ none := fun G H σ Q _ j k => k G H (Ex.refl G) j
theorem eo_some {i : Int} (h : ED K f s te δ (Is s (.dat (.int i)))) : EO K f s (tPart te) δ (some i) := fun G H σ Q sl j k => h G H σ _ sl j fun v x s1 G1 H1 e1 j1 o1 p1 => by
  obtain ⟨rfl, rfl⟩ := p1
  cases o1
  exact ⟨i, rfl, k G1 H1 e1 j1⟩
theorem ed_slO {tl th : TO} {ds : List PyData} {lo hi : Option Int} (h : ED K f s te δ (Is s (.dat (.tuple ds)))) (h1 : EO K f s tl δ lo) (h2 : EO K f s th δ hi) : ED K f s (tSl (rSlF K) te tl th) δ (Is s (.dat (.tuple (cutD ds lo hi)))) := fun G H σ Q sl b k =>
  h G H σ _ sl b fun v x s1 G1 H1 e1 j1 o1 p1 => by
    obtain ⟨rfl, rfl⟩ := p1
    refine h1 G1 H1 σ _ (Slots.mono e1 sl) j1 fun G2 H2 e2 j2 => h2 G2 H2 σ _ (Slots.mono (e1.trans e2) sl) j2 fun G3 H3 e3 j3 => ?_
    have o3 : Dp K G3 v (.tuple ds) := dpMono (e2.trans e3) o1
    have e13 := (e1.trans e2).trans e3
    cases o3 with
    | tup sq al =>
      rename_i ad xs
      refine ⟨ad, xs, rfl, ex_t j3.ex sq, fun hw => ?_, fun hw q o ho hq => ?_⟩
      · have e : cutD ds lo hi = ds := by
          unfold cutD
          rw [dpa_len al] at hw
          rw [hw.1, hw.2, List.drop_zero, Nat.sub_zero, List.take_length]
        rw [e] at k
        exact k _ (.dat (.tuple ds)) _ G3 H3 e13 j3 (show Dp K _ _ _ from .tup sq al) ⟨rfl, rfl⟩
      · exact fT (fun w z s' G2 H2 e3 => k w z s' G2 H2 (e13.trans e3)) j3 (dpa_cut al lo hi) ho hq
theorem cutD_sub {ds : List PyData} {lo hi : Option Int} : (∀ d ∈ cutD ds lo hi, d ∈ ds) ∧ (cutD ds lo hi).length ≤ ds.length := by
  unfold cutD
  refine ⟨fun d hd => List.mem_of_mem_drop (List.mem_of_mem_take hd), ?_⟩
  rw [List.length_take, List.length_drop]
  omega
/-! ### displays with drawn things -/
theorem ed_tupN {ta : TA} {PA : Sx → List En → Prop} (h : EA K f s ta δ PA) (k : ∀ s' es, PA s' es → ∃ ds, dats es = some ds ∧ ds.length ≤ 100000 ∧ P s' (.dat (.tuple ds))) : ED K f s (tTupF ta) δ P := fun G H σ Q sl b c =>
  h G H σ _ sl b fun vs xs s1 G1 H1 e1 j1 o1 p1 => by
    obtain ⟨ds, e, hl, hp⟩ := k s1 xs p1
    rw [dats_eq e] at o1
    have o2 := Vs.dpa o1
    refine ⟨sz_of (by rw [dpa_len o2]; exact hl), fun q o ho hq => ?_⟩
    exact fT (fun w z s' G2 H2 e3 j3 o3 p3 => c w z s' G2 H2 (e1.trans e3) j3 o3 (by obtain ⟨rfl, rfl⟩ := p3; exact hp)) j1 o2 ho hq
theorem ed_lstN {ta : TA} {PA : Sx → List En → Prop} (h : EA K f s ta δ PA) (k : ∀ s' es, PA s' es → ∃ ds, dats es = some ds ∧ ds.length ≤ 100000 ∧ P s' (.dat (.list ds))) : ED K f s (tLst ta) δ P := fun G H σ Q sl b c =>
  h G H σ _ sl b fun vs xs s1 G1 H1 e1 j1 o1 p1 => by
    obtain ⟨ds, e, hl, hp⟩ := k s1 xs p1
    rw [dats_eq e] at o1
    have o2 := Vs.dpa o1
    refine ⟨sz_of (by rw [dpa_len o2]; exact hl), fun q hq => ?_⟩
    exact fL (fun w z s' G2 H2 e3 j3 o3 p3 => c w z s' G2 H2 (e1.trans e3) j3 o3 (by obtain ⟨rfl, rfl⟩ := p3; exact hp)) j1 o2 hq
/-- a, b = e, e2 -/
theorem sd_par {ta : TA} {i j : Nat} {PA : Sx → List En → Prop} (h : EA K f s ta δ PA) (k : ∀ s' es, PA s' es → ∃ x y, es = [x, y] ∧ SD K f s' u ((δ.set i x).set j y) p) : SD K f s (tSeq (tPar i j ta) u) δ p := fun G H σ Dd sl b c =>
  h G H σ _ sl b fun vs xs s1 G1 H1 e1 j1 o1 p1 => by
    obtain ⟨x, y, rfl, hs⟩ := k s1 xs p1
    cases o1 with
    | cons o1 o2 =>
      cases o2 with
      | cons o2 o3 =>
        cases o3
        exact ⟨_, _, rfl, hs G1 H1 _ Dd (Slots.set (SOk.of o2) j (Slots.set (SOk.of o1) i (Slots.mono e1 sl))) j1 (c.mono e1)⟩
/-- int(truth) -/
theorem cd_intB {b : Bool} : CD K f (fun xs H Q => (∃ i, xs = [.int i] ∧ Q (.int i) H) ∨ ∃ k, xs = [.bl k] ∧ Q (.int (if k then 1 else 0)) H) s [.dat (.bool b)] (Is s (.dat (.int (if b then 1 else 0)))) := fun G H vs Q jj a k => by
  cases a with
  | cons h t =>
    cases t
    cases h
    exact .inr ⟨b, rfl, fD k jj (.int _)⟩
theorem od_eqI {a b : Int} : OD K f rEq s (.dat (.int a)) (.dat (.int b)) (Is s (.dat (.bool (decide (V.int a = V.int b))))) := fun G H v u Q jj x y k => by
  cases x
  cases y
  exact ⟨rfl, fD k jj (.bl _)⟩
theorem od_neS {a b : Str} : OD K f rNe s (.dat (.str a)) (.dat (.str b)) (Is s (.dat (.bool (!decide (V.str a = V.str b))))) := fun G H v u Q jj x y k => by
  cases x
  cases y
  exact ⟨rfl, fD k jj (.bl _)⟩
end
section
variable {K : PySem.W.Frag} {f : Fx} {s : Sx} {δ : List En} {ta tb te tl to : TE} {tt tu : TT} {P R : Sx → En → Prop} {t u : TS} {p : Po} {n c : Nat} {D : Addr} {es : List En} {r w : List (Addr × List En)}
/-- xs[i], xs[j] = (e, e2) of the list on top -/
theorem sd_swapSet {ta : TA} {i0 : Nat} {i j : Nat} {tb tc : TE} {x y : PyData} (h : EA K f ⟨n, (D, es) :: r⟩ ta δ (Is ⟨n, (D, es) :: r⟩ [.dat x, .dat y])) (hi0 : δ[i0]? = some (.val (.ref D))) (h1 : ∀ es', ED K f ⟨n, (D, es') :: r⟩ tb δ (Is ⟨n, (D, es') :: r⟩ (.dat (.int (i : Int))))) (h2 : ∀ es', ED K f ⟨n, (D, es') :: r⟩ tc δ (Is ⟨n, (D, es') :: r⟩ (.dat (.int (j : Int)))))
    (hi : i < es.length) (hj : j < es.length) (k : SD K f ⟨n, (D, (es.set i (.dat x)).set j (.dat y)) :: r⟩ u δ p) : SD K f ⟨n, (D, es) :: r⟩ (tSeq (tAsg (tTupF ta) (gTup K 2 (gCons (gSub (tVar i0) tb rSetL) (gCons (gSub (tVar i0) tc rSetL) gNil)))) u) δ p := fun G H σ Dd sl b cc =>
  h G H σ _ sl b fun vs zs s1 G1 H1 e1 j1 o1 p1 => by
    obtain ⟨rfl, rfl⟩ := p1
    cases o1 with
    | cons d1 o2 =>
      cases o2 with
      | cons d2 o3 =>
        cases o3
        rename_i v1 v2
        refine ⟨sz_of (Nat.le_of_ble_eq_true rfl), fun ad ob hob had => ?_⟩
        replace j1 := j1.allocH had (.frz ob (.tup [v1, v2]))
        have sq : SqT K (upd H1 ad (.frz ob (.tup [v1, v2]))) ad [v1, v2] := st_frz upd_same
        generalize upd H1 ad (.frz ob (.tup [v1, v2])) = H1 at j1 sq ⊢
        refine ⟨ad, [v1, v2], rfl, sq, rfl, v1, [v2], rfl, ?_⟩
        obtain ⟨w0, e0, o0⟩ := Slots.get (Slots.mono e1 sl) hi0 rfl
        cases (show w0 = V.ref D from o0)
        refine ⟨_, e0, h1 es G1 H1 σ _ (Slots.mono e1 sl) j1 fun w1 z1 s2 G2 H2 e2 j2 o2 p2 => ?_⟩
        obtain ⟨rfl, rfl⟩ := p2
        cases o2
        obtain ⟨_, _, _, xs2, hx2, vv2⟩ := j2.own D _ (List.mem_cons_self ..)
        refine ⟨D, xs2, (i : Int), i, rfl, rfl, hx2, Evl.ixN_nat (by rw [vv2.len]; exact hi), ?_⟩
        have j3 := j2.ownSet (Vs.setAt i vv2 (show Ok K G2 v1 (.dat x) from dpMono e2 d1))
        refine ⟨v2, [], rfl, _, e0, h2 _ G2 _ σ _ (Slots.mono (e1.trans e2) sl) j3 fun w3 z3 s4 G4 H4 e4 j4 o4 p4 => ?_⟩
        obtain ⟨rfl, rfl⟩ := p4
        cases o4
        obtain ⟨_, _, _, xs4, hx4, vv4⟩ := j4.own D _ (List.mem_cons_self ..)
        refine ⟨D, xs4, (j : Int), j, rfl, rfl, hx4, Evl.ixN_nat (by rw [vv4.len, List.length_set]; exact hj), rfl, ?_⟩
        have e14 := (e1.trans e2).trans e4
        exact k G4 _ σ Dd (Slots.mono e14 sl) (j4.ownSet (Vs.setAt j vv4 (show Ok K G4 v2 (.dat y) from dpMono (e2.trans e4) d2))) (cc.mono e14)
end
theorem okN_int {k : Nat} {i : Int} (h : i.natAbs < 2 ^ 1900) : okN (k + 1) (.int i) = true := by
  refine decide_eq_true ?_
  exact Nat.lt_of_lt_of_le (PySem.Flt.log2_lt_of (k := 1900) (by decide) h) (by decide)
theorem okN_small {k : Nat} {i : Int} (h0 : 0 ≤ i) (h : i < 2 ^ 64) : okN (k + 1) (.int i) = true := okN_int (Nat.lt_of_lt_of_le (show i.natAbs < 2 ^ 64 by omega) (Nat.pow_le_pow_right (by decide) (by decide)))
theorem okN_tup {k : Nat} {ds : List PyData} (hl : ds.length ≤ 20) (h : ∀ d ∈ ds, okN k d = true) : okN (k + 1) (.tuple ds) = true := by
  show (decide (ds.length ≤ 20) && ds.all (okN k)) = true
  rw [Bool.and_eq_true]
  exact ⟨decide_eq_true hl, List.all_eq_true.mpr h⟩
theorem okN_lst {k : Nat} {ds : List PyData} (hl : ds.length ≤ 20) (h : ∀ d ∈ ds, okN k d = true) : okN (k + 1) (.list ds) = true := by
  show (decide (ds.length ≤ 20) && ds.all (okN k)) = true
  rw [Bool.and_eq_true]
  exact ⟨decide_eq_true hl, List.all_eq_true.mpr h⟩
theorem okN_mono : ∀ {k : Nat} {d : PyData}, okN k d = true → okN (k + 1) d = true
  | 0, _, h => by cases h
  | k + 1, .none, _ => rfl
  | k + 1, .bool _, _ => rfl
  | k + 1, .int _, h => h
  | k + 1, .str _, h => h
  | k + 1, .list xs, h => by
    obtain ⟨h1, h2⟩ := Bool.and_eq_true_iff.mp (show (decide (xs.length ≤ 20) && xs.all (okN k)) = true from h)
    exact okN_lst (of_decide_eq_true h1) fun d hd => okN_mono (List.all_eq_true.mp h2 d hd)
  | k + 1, .tuple xs, h => by
    obtain ⟨h1, h2⟩ := Bool.and_eq_true_iff.mp (show (decide (xs.length ≤ 20) && xs.all (okN k)) = true from h)
    exact okN_tup (of_decide_eq_true h1) fun d hd => okN_mono (List.all_eq_true.mp h2 d hd)
  | k + 1, .dict _, h => by cases h
end Dl

namespace Dl
open PySem L2 Evl
section
variable {K : PySem.W.Frag} {f : Fx} {s : Sx} {δ : List En} {ta tb te tl to : TE} {tt tu : TT} {P R : Sx → En → Prop} {t u : TS} {p : Po} {n c : Nat} {D : Addr} {es fs : List En} {r w : List (Addr × List En)}
/-! ### an expression that gives a new list of our own -/
def OL (K : PySem.W.Frag) (f : Fx) (s : Sx) (te : TE) (δ : List En) (es : List En) : Prop :=
  ∀ G H σ (Q : VK), Slots K G σ δ → J K f s G H → (∀ q G2 H2, Ex G G2 → J K f ⟨s.n, (q, es) :: s.own⟩ G2 H2 → Q (.ref q) H2) → te σ H Q
theorem ol_is (h : OL K f s te δ es) (e : es = fs) : OL K f s te δ fs := e ▸ h
theorem ol_lst {ta : TA} (h : EA K f s ta δ (Is s es)) (hl : es.length ≤ 100000) : OL K f s (tLst ta) δ es := fun G H σ Q sl j k =>
  h G H σ _ sl j fun vs xs s1 G1 H1 e1 j1 o1 p1 => by
    obtain ⟨rfl, rfl⟩ := p1
    exact ⟨sz_of (by rw [o1.len]; exact hl), fun q hq => k q G1 _ e1 (j1.ownNew hq o1)⟩
theorem sd_ol {i : Nat} (h : OL K f s te δ es) (k : ∀ D, SD K f ⟨s.n, (D, es) :: s.own⟩ u (δ.set i (.val (.ref D))) p) : SD K f s (tSeq (tAsg te (gName i)) u) δ p := fun G H σ Dd a b c =>
  h G H σ _ a b fun q G2 H2 e2 j2 => k q G2 H2 _ Dd (Slots.set (SOk.of (show Ok K G2 (.ref q) (.val (.ref q)) from rfl)) i (Slots.mono e2 a)) j2 (c.mono e2)
/-- .. in the place of the list on top, which is forgotten -/
theorem sd_olTop {i : Nat} (h : OL K f ⟨n, (D, fs) :: r⟩ te δ es) (k : ∀ D', SD K f ⟨n, (D', es) :: r⟩ u (δ.set i (.val (.ref D'))) p) : SD K f ⟨n, (D, fs) :: r⟩ (tSeq (tAsg te (gName i)) u) δ p :=
  sd_ol h fun D' => sd_swap (sd_forget (k D'))
theorem ed_ol {ds : List PyData} (h : OL K f s te δ (ds.map .dat)) : ED K f s te δ (Is s (.dat (.list ds))) := fun G H σ Q a b c =>
  h G H σ _ a b fun q G2 H2 e2 j2 => by
    obtain ⟨xs, j3, vv, hg, hx⟩ := j2.ownEnd
    have e3 : Ex G2 (upd G2 q (.lst xs)) := Ex.new hg
    exact c _ (.dat (.list ds)) _ _ H2 (e2.trans e3) j3 (show Dp K _ _ _ from .lst (sq_of upd_same) (dpaMono e3 (Vs.dpa vv))) ⟨rfl, rfl⟩
/-- xs + e, xs a list that is changed -/
theorem ol_cat {i : Nat} (hi : δ[i]? = some (.val (.ref D))) (hm : (D, es) ∈ s.own) (h : OL K f s tb δ fs) (hl : es.length + fs.length ≤ 100000) : OL K f s (tOp rCat (tVar i) tb) δ (es ++ fs) := fun G H σ Q sl j k => by
  obtain ⟨v, e0, o1⟩ := Slots.get sl hi rfl
  cases (show v = V.ref D from o1)
  refine ⟨_, e0, h G H σ _ sl j fun q G2 H2 e2 j2 => ?_⟩
  obtain ⟨_, _, _, xs, hx, vx⟩ := j2.own D es (List.mem_cons_of_mem _ hm)
  obtain ⟨_, _, _, ys, hy, vy⟩ := j2.own q fs (List.mem_cons_self ..)
  refine ⟨D, q, xs, ys, rfl, rfl, hx, hy, sz_of (by rw [vx.len, vy.len]; exact hl), fun a ha => ?_⟩
  exact k a G2 _ e2 (j2.ownDrop.ownNew ha (Vs.cat vx vy))
/-- [..] * k -/
theorem ol_rep {k : Nat} (h : OL K f s ta δ es) (hk : ∀ q, ED K f ⟨s.n, (q, es) :: s.own⟩ tb δ (Is ⟨s.n, (q, es) :: s.own⟩ (.dat (.int (k : Int))))) (h1 : k ≤ 100000) (hl : es.length * k ≤ 100000) : OL K f s (tOp rRep ta tb) δ (List.replicate k es).flatten := fun G H σ Q sl j c =>
  h G H σ _ sl j fun q G2 H2 e2 j2 => hk q G2 H2 σ _ (Slots.mono e2 sl) j2 fun v x s3 G3 H3 e3 j3 o3 p3 => by
    obtain ⟨rfl, rfl⟩ := p3
    cases o3
    obtain ⟨_, _, _, xs, hx, vx⟩ := j3.own q es (List.mem_cons_self ..)
    refine ⟨q, (k : Int), xs, rfl, rfl, hx, by omega, by omega, ?_, fun a ha => ?_⟩
    · rw [Int.toNat_natCast, vx.len]
      exact sz_of hl
    · have all : ∀ m : Nat, Vs K G3 (List.replicate m xs).flatten (List.replicate m es).flatten := by
        intro m
        induction m with
        | zero => exact .nil
        | succ m ih =>
          rw [List.replicate_succ, List.replicate_succ, List.flatten_cons, List.flatten_cons]
          exact Vs.cat vx ih
      rw [Int.toNat_natCast]
      exact c a G3 _ (e2.trans e3) (j3.ownDrop.ownNew ha (all k))
/-- "..".split("..") -/
def rSplitS : V → List V → Hp → VK → Prop := fun x xs H Q => ∃ a b, x = .str a ∧ xs = [.str b] ∧ (b.length == 0) = false ∧ a.length + 2 ≤ sizeLine ∧ rNewStrs (Txt.split a b) H Q
theorem mt_splitS {X : Cx} : MtR X "str.split" rSplitS := mt_split
theorem vs_strs {G : Hp} : ∀ ys : List Str, Vs K G (ys.map V.str) (ys.map fun y => .dat (.str y))
  | [] => .nil
  | y :: ys => .cons (show Dp K G (.str y) (.str y) from .str y) (vs_strs ys)
theorem ol_split {a b : Str} {ys : List Str} (hy : Txt.split a b = ys) (hb : (b.length == 0) = false) (ha : a.length + 2 ≤ 100000) : OL K f s (tBM K "str" rSplitS (tC (.str a)) (tCons (tC (.str b)) tNil)) δ (ys.map fun y => .dat (.str y)) := fun G H σ Q sl j k =>
  ⟨rfl, a, b, rfl, rfl, hb, sz_of ha, fun q hq => by rw [hy]; exact k q G _ (Ex.refl G) (j.ownNew hq (vs_strs ys))⟩
/-- the list on top is changed no more: its name holds data -/
theorem slots_set_get {G : Hp} {x : En} {v : V} : ∀ {σ : St} {δ : List En} {i : Nat}, Slots K G σ δ → σ[i]? = some (some v) → Ok K G v x → Slots K G σ (δ.set i x)
  | _, _, _, .nil, _, _ => .nil
  | _, _, 0, .cons _ t, e, o => by
    simp only [List.getElem?_cons_zero, Option.some.injEq] at e
    subst e
    exact .cons (SOk.of o) t
  | _, _, i + 1, .cons a t, e, o => .cons a (slots_set_get t (by simpa using e) o)
theorem sd_ownData {i : Nat} {ds : List PyData} (hi : δ[i]? = some (.val (.ref D))) (h : SD K f ⟨n, r⟩ t (δ.set i (.dat (.list ds))) p) : SD K f ⟨n, (D, ds.map .dat) :: r⟩ t δ p := fun G H σ Dd sl j c => by
  obtain ⟨v, e0, o1⟩ := Slots.get sl hi rfl
  cases (show v = V.ref D from o1)
  obtain ⟨xs, j2, vv, hg, hx⟩ := j.ownEnd
  have e2 : Ex G (upd G D (.lst xs)) := Ex.new hg
  exact h _ H σ Dd (slots_set_get (Slots.mono e2 sl) e0 (show Dp K _ _ _ from .lst (sq_of upd_same) (dpaMono e2 (Vs.dpa vv)))) j2 (c.mono e2)
/-! ### [e for a, b in zip(xs, ys) if t] -/
def prD : PyData × PyData → PyData := fun x => .tuple [x.1, x.2]
theorem zipL_get {ds ds2 : List PyData} {i : Nat} {d d2 : PyData} (h : ds[i]? = some d) (h2 : ds2[i]? = some d2) : (ds.zip ds2)[i]? = some (d, d2) := by
  rw [List.getElem?_zip_eq_some]
  exact ⟨h, h2⟩
def zE (ft : PyData × PyData → Bool) (g : PyData × PyData → PyData) (ds : List (PyData × PyData)) : List En := ((ds.filter ft).map g).map .dat
theorem zE_yes {ft : PyData × PyData → Bool} {g : PyData × PyData → PyData} {ds : List (PyData × PyData)} {i : Nat} {d : PyData × PyData} (e : ds[i]? = some d) (h : ft d = true) : zE ft g (ds.take (i + 1)) = zE ft g (ds.take i) ++ [.dat (g d)] := by
  unfold zE
  rw [List.take_add_one, e]
  simp [h]
theorem zE_no {ft : PyData × PyData → Bool} {g : PyData × PyData → PyData} {ds : List (PyData × PyData)} {i : Nat} {d : PyData × PyData} (e : ds[i]? = some d) (h : ft d = false) : zE ft g (ds.take (i + 1)) = zE ft g (ds.take i) := by
  unfold zE
  rw [List.take_add_one, e]
  simp [h]
theorem zE_len (ft : PyData × PyData → Bool) (g : PyData × PyData → PyData) (ds : List (PyData × PyData)) : (zE ft g ds).length ≤ ds.length := by
  unfold zE
  rw [List.length_map, List.length_map]
  exact List.length_filter_le _ _
theorem wipe2 {σ : St} {i j : Nat} {x y : Option V} (h : i ≠ j) : wipe (((wipe σ [i, j]).set i x).set j y) [i, j] = wipe σ [i, j] := by
  show ((((((σ.set j none).set i none).set i x).set j y).set j none).set i none) = (σ.set j none).set i none
  rw [List.set_set, List.set_set, List.set_comm _ _ h, List.set_set, List.set_comm _ _ h.symm]
  first
    | rfl
    | rw [List.set_comm _ _ h.symm, List.set_set, List.set_set]
    | simp [List.set_set, List.set_comm _ _ h]
theorem ol_lcZ {ta : TA} {i1 i2 : Nat} {ds ds2 : List PyData} (ft : PyData × PyData → Bool) (g : PyData × PyData → PyData) (h : EA K f s ta δ (Is s [.dat (.list ds), .dat (.list ds2)])) (hn : i1 ≠ i2) (hl : ds.length = ds2.length) (hl2 : ds.length ≤ 90000)
    (ht : ∀ d d2, (d, d2) ∈ ds.zip ds2 → ∀ s', ET K f s' tt (((wipeE δ [i1, i2]).set i1 (.dat d)).set i2 (.dat d2)) (Is s' (ft (d, d2)))) (he : ∀ d d2, (d, d2) ∈ ds.zip ds2 → ft (d, d2) = true → ∀ s', ED K f s' te (((wipeE δ [i1, i2]).set i1 (.dat d)).set i2 (.dat d2)) (Is s' (.dat (g (d, d2))))) :
    OL K f s (tLc (RZ.iZipA K ta) (gTup K 2 (gCons (gName i1) (gCons (gName i2) gNil))) tt te [i1, i2]) δ (((((ds.zip ds2).filter ft).map g)).map .dat) := fun G H σ Q sl j k =>
  h G H σ _ sl j fun vs xs s1 G1 H1 e1 j1 o1 p1 => by
    obtain ⟨rfl, rfl⟩ := p1
    cases o1 with
    | cons o1 o2 =>
      cases o2 with
      | cons o2 o3 =>
        cases o3
        cases o1 with
        | lst sq al =>
          cases o2 with
          | lst sq2 al2 =>
            rename_i ad xs ad2 ys
            have hxy : xs.length = ys.length := by rw [dpa_len al, dpa_len al2]; exact hl
            refine ⟨ad, ad2, xs, ys, rfl, .inl ⟨ex_l j1.ex sq, ex_l j1.ex sq2, fun Dq hD => ⟨fun i m H' => m = xs.length - i ∧ i ≤ xs.length ∧ lcAt K f s1 G1 Dq (zE ft g ((ds.zip ds2).take i)) H', ⟨xs.length, rfl, Nat.zero_le _, G1, Ex.refl G1, j1.ownNew hD .nil⟩, ?_⟩⟩⟩
            rintro i m H' ⟨rfl, hi, G', eg, jj⟩
            have q1 := ex_l jj.ex (ex_l eg sq)
            have q2 := ex_l jj.ex (ex_l eg sq2)
            have hzl : (ds.zip ds2).length = xs.length := by rw [List.length_zip, ← hl, dpa_len al]; omega
            by_cases hlt : i < xs.length
            · have hx : xs[i]? = some xs[i] := List.getElem?_eq_getElem hlt
              have hlt2 : i < ys.length := by omega
              have hy : ys[i]? = some ys[i] := List.getElem?_eq_getElem hlt2
              refine .inr ⟨⟨xs, ys, _, _, q1, q2, hx, hy⟩, fun H2 => lcAt K f s1 G1 Dq (zE ft g ((ds.zip ds2).take (i + 1))) H2, fun H2 p2 => ⟨xs.length - (i + 1), by omega, rfl, hlt, p2⟩, fun v H2 yl => ?_⟩
              obtain ⟨T, x', y', rfl, hT, rfl, f1, f2⟩ := yl
              obtain ⟨d, hd, od⟩ := dpa_getV al (f1 xs q1)
              obtain ⟨d2, hd2, od2⟩ := dpa_getV al2 (f2 ys q2)
              have hz := zipL_get hd hd2
              have hmem := List.mem_of_getElem? hz
              have j3 := jj.allocH hT (.tup [x', y'])
              refine ⟨T, [x', y'], rfl, st_of upd_same, rfl, x', [y'], rfl, y', [], rfl, rfl, wipe2 hn, ?_⟩
              have sl2 : ∀ G'', Ex G1 G'' → Slots K G'' (((wipe σ [i1, i2]).set i1 (some x')).set i2 (some y')) (((wipeE δ [i1, i2]).set i1 (.dat d)).set i2 (.dat d2)) := fun G'' e'' =>
                Slots.set (SOk.of (show Ok K G'' y' (.dat d2) from dpMono e'' od2)) i2 (Slots.set (SOk.of (show Ok K G'' x' (.dat d) from dpMono e'' od)) i1 (Slots.wipe (Slots.mono (e1.trans e'') sl) [i1, i2]))
              refine ht d d2 hmem _ G' _ _ _ (sl2 G' eg) j3 fun b s4 G4 H4 e4 j4 q => ?_
              obtain ⟨rfl, rfl⟩ := q
              cases hf : ft (d, d2) with
              | true =>
                refine iteT (he d d2 hmem hf _ G4 H4 _ _ (sl2 G4 (eg.trans e4)) j4 fun y x s5 G5 H5 e5 j5 o5 q5 => ?_)
                obtain ⟨rfl, rfl⟩ := q5
                obtain ⟨a1, a2, a3, acc, a4, a5⟩ := j5.own Dq _ (List.mem_cons_self ..)
                refine ⟨acc, a4, sz_lt ?_, G5, (eg.trans e4).trans e5, ?_⟩
                · rw [a5.len]
                  have := zE_len ft g ((ds.zip ds2).take i)
                  rw [List.length_take] at this
                  have := dpa_len al
                  omega
                · rw [zE_yes hz hf]
                  exact j5.ownSet (Vs.app a5 o5)
              | false =>
                refine iteF ⟨G4, eg.trans e4, ?_⟩
                rw [zE_no hz hf]
                exact j4
            · have e : i = xs.length := by omega
              subst e
              refine .inl ⟨⟨xs, ys, q1, q2, Or.inl (Nat.le_refl _)⟩, ?_⟩
              rw [List.take_of_length_le (by omega)] at jj
              exact k Dq G' H' (e1.trans eg) jj
theorem sd_lcZ {ta : TA} {i1 i2 i : Nat} {es : List En} (h : OL K f s (tLc (RZ.iZipA K ta) (gTup K 2 (gCons (gName i1) (gCons (gName i2) gNil))) tt te [i1, i2]) δ es) (k : ∀ D, SD K f ⟨s.n, (D, es) :: s.own⟩ u (δ.set i (.val (.ref D))) p) : SD K f s (tSeq (tAsg (tLc (RZ.iZipA K ta) (gTup K 2 (gCons (gName i1) (gCons (gName i2) gNil))) tt te [i1, i2]) (gName i)) u) δ p := sd_ol h k
/-- x is None -/
theorem od_isNd {d : PyData} (hd : d = .none) : OD K f (fun x y H Q => y = .non ∧ Q (.bl (decide (x = .non))) H) s (.dat d) (.dat .none) (Is s (.dat (.bool true))) := fun G H v u Q jj x y k => by
  subst hd
  cases x
  cases y
  exact ⟨rfl, fD k jj (.bl _)⟩
theorem od_isNth {k : List Int} {φ : Hp → V → Prop} (h : ∀ G v, φ G v → v ≠ .non) : OD K f (fun x y H Q => y = .non ∧ Q (.bl (decide (x = .non))) H) s (.th k φ) (.dat .none) (Is s (.dat (.bool false))) := fun G H v u Q jj x y k => by
  obtain ⟨G0, e0, q⟩ := x
  cases y
  refine ⟨rfl, ?_⟩
  rw [decide_eq_false (h G0 v q)]
  exact fD k jj (.bl _)
end
end Dl

namespace Dl
open PySem L2 Evl
/-! ### a caught exception, kept -/
/-- an exception of the class cls that was caught -/
def ExK (cls : Value) (a : Addr) : HO := .ext fun h => ∃ (oe : Obj) (vs : Array Value), h.get? a = some oe ∧ Zc cls none oe ∧ oe.data = .fields vs
/-- the clause's wish: an exception of the class c comes, its name is dropped, its object is kept at slot j -/
def wKeep (K : PySem.W.Frag) (c : Value) (i j : Nat) (D : Ends) : WX := fun cls d σ H => PySem.W.exmOne K cls c = some true ∧ d = none ∧
  ∀ a, H a = none → D.nx (((σ.set i (some (.ref a))).set j (some (.ref a))).set i none) (upd H a (ExK cls a))
def tTry (K : PySem.W.Frag) (c : Value) (i j : Nat) (tb : WX → TS) : TS := fun D σ H => tb (wKeep K c i j D) D σ H
/-- tracked from here on: it wasn't there at the entry -/
theorem Inv_track {X : Cx} {pins : List (Addr × Obj)} {σ : St} {H : Hp} {s : Shared} {a : Addr} {oe : Obj} {vs : Array Value} {cls : Value} (I : Inv X ((a, oe) :: pins) σ H s) (z : Zc cls none oe) (d : oe.data = .fields vs) (h0 : X.s_0.heap.get? a = none) (hp : ∀ q ∈ X.pn ++ pins, q.1 ≠ a) : Inv X pins σ (upd H a (ExK cls a)) s := by
  obtain ⟨g1, g2, g3, g4, g5⟩ := I.pin (a, oe) (List.mem_append_right _ (List.mem_cons_self ..))
  have nk : ∀ b, b ≠ a → upd H a (ExK cls a) b = H b := fun b hb => upd_ne hb
  have na : ∀ {b : Addr} {o : HO}, H b = some o → b ≠ a := fun {b o} e => ne_of_none e g2
  have loc : X.env.locals ≠ a := fun q => g3 q.symm
  have cne : ∀ x c, X.env.cells.lookup x = some c → c ≠ a := fun x c e q => by
    obtain ⟨v, o, ho, hd⟩ := I.cell x c e
    rw [q] at ho
    rw [g1] at ho
    cases ho
    exact g5 _ hd
  have st : ∀ b o, X.s_0.heap.get? b = some o → b ≠ a := fun b o e q => by
    rw [q, h0] at e
    cases e
  have b0 := I.base
  refine ⟨I.ok, I.os, I.bare, ⟨b0.keep, b0.slot, fun b o e n x => ?_, b0.there, fun b xs e => ?_, fun b o xs e => ?_, fun b ps e => ?_⟩, I.loc, I.cell, ?_, fun x c e => ?_, fun q hq => ?_, fun b o e => ?_, I.len⟩
  · rw [nk b (st b o e)]
    exact b0.free b o e n x
  · have q := b0.tups b xs e
    rw [nk b (na q)]
    exact q
  · have q := b0.frzs b o xs e
    rw [nk b (na q)]
    exact q
  · obtain ⟨m, q⟩ := b0.tbls b ps e
    exact ⟨m, by rw [nk b (na q)]; exact q⟩
  · rw [nk _ loc]
    exact I.free
  · rw [nk _ (cne x c e)]
    exact I.freeC x c e
  · have hq' : q ∈ X.pn ++ (a, oe) :: pins := by
      rcases List.mem_append.mp hq with m | m
      · exact List.mem_append_left _ m
      · exact List.mem_append_right _ (List.mem_cons_of_mem _ m)
    obtain ⟨k1, k2, k3, k4, k5⟩ := I.pin q hq'
    exact ⟨k1, by rw [nk _ (hp q hq)]; exact k2, k3, k4, k5⟩
  · by_cases hb : b = a
    · subst hb
      rw [upd_same] at e
      cases e
      exact ⟨⟨oe, vs, g1, z, d⟩, ⟨oe, g1⟩, fun h1 h2 ⟨o, v, q, r⟩ k => ⟨o, v, k o q, r⟩⟩
    · rw [nk b hb] at e
      refine (I.hok b o e).stay (fun c u _ q => q) (fun c q => ?_) fun c xs q => ?_
      · rw [nk c (na q)]; exact q
      · rw [nk c (na q)]; exact q
section
variable {X : Cx} {x n y : Str} {c : Value} {i j : Nat} {body : List Stmt} {np pos pos' q1 q2 q3 : Pos} {tb : WX → TS}
/-- try: body, except x as n: y = n -/
theorem ps_try_keep (stk : X.stack = X.env :: X.outer) (fram : X.env.frame = some X.env.locals) (xex : X.ex = []) (nod : X.N.Nodup) (ni : X.N[i]? = some n) (kn : X.env.kindOf n = some .local) (nm : Names X x c) (ps1 : ∀ (a : Addr) (oe : Obj) (pn : List (Addr × Obj)), PSs (X.suite a ((a, oe) :: pn)) [.Assign [.Name y q1] (.Name n q2) q3] (tAsg (tVar i) (gName j)))
    (inner : ∀ (W : WX) (pn : List (Addr × Obj)) (xe : Value → Shared → Prop), Takes (X.tr pn xe) W → PassesOwn (model X.prog X.w) X.A X.env xe → PSs (X.tr pn xe) body (tb W)) :
    PS X (.Try body [.ExceptHandler (some (.Name x np)) (some n) [.Assign [.Name y q1] (.Name n q2) q3] pos'] [] [] pos) (tTry X.K c i j tb) := by
  refine ⟨fun pins s σ H D I h => ?_⟩
  unfold tTry at h
  have good := I.ok
  have frm : X.A.frames = some (X.env :: X.outer) := by rw [good.frames, stk]
  refine wpAny_Try_except ?_
  let xe : Value → Shared → Prop := fun e s₁ => wpAny (model X.prog X.w) X.A (noteFrame e X.env) (fun _ s₂ => wpAny (model X.prog X.w) X.A (setFlight e none) (fun _ s₃ => wpAny (model X.prog X.w) X.A (handleBy e X.env
    [.ExceptHandler (some (.Name x np)) (some n) [.Assign [.Name y q1] (.Name n q2) q3] pos']) (SP X pins D) X.xe s₃) X.xe s₂) X.xe s₁
  have tak : Takes (X.tr (X.pn ++ pins) xe) (wKeep X.K c i j D) := by
    intro u s1 air
    obtain ⟨a, B, sI, pins2, τ, H1, cls, d, rfl, Jt, ground, upto, sky, Ha, osq, bare, hm, rfl, go⟩ := air
    have J0 : Inv X pins τ H1 sI := Jt.ofTry good
    rw [show (X.tr (X.pn ++ pins) xe).stack = X.env :: X.outer from stk] at sky
    show wpAny (model X.prog X.w) X.A (noteFrame (.ref a) X.env) _ _ _
    refine Sky.land Zc.steady frm fram sky fun h3 fly up3 => ?_
    have J3 : Inv X pins τ H1 { s1 with heap := h3 } := J0.landed ground fly.1 (upto.trans up3) osq bare
    obtain ⟨oe3, vs3, at3, z3, d3⟩ := fly.there
    have out : a ∉ frs (X.env :: X.outer) := fun mem => by
      obtain ⟨_, o', at', no'⟩ := fly.2.2.1.mem mem
      rw [at3] at at'
      cases at'
      exact no' _ d3
    have outS : a ∉ frs X.stack := by rw [stk]; exact out
    have Ba : B.get? a = none := fly.2.1
    have nloc : a ≠ X.env.locals := fun q => out (List.mem_filterMap.mpr ⟨X.env, List.mem_cons_self, by rw [fram, q]⟩)
    have nfs : a ∉ X.fs := fun mem => by
      obtain ⟨en, he, q⟩ := List.mem_filterMap.mp mem
      exact out (List.mem_filterMap.mpr ⟨en, List.mem_cons_of_mem _ he, q⟩)
    have gone : sI.heap.get? a = none := by
      cases q : sI.heap.get? a with
      | none => rfl
      | some o =>
        have := ground a o q outS
        rw [Ba] at this
        cases this
    have gone0 : X.s_0.heap.get? a = none := by
      cases q : X.s_0.heap.get? a with
      | none => rfl
      | some o =>
        obtain ⟨o', q'⟩ := J0.base.there a o q (by rw [xex]; simp)
        rw [gone] at q'
        cases q'
    have pinOff : ∀ q ∈ X.pn ++ pins, q.1 ≠ a := fun q hq e => by
      have := (J0.pin q hq).1
      rw [e, gone] at this
      cases this
    have inSuite := J3.suite at3 d3 Ha nloc nfs
    refine wpAny_handleBy_cons (codeAny_handlers_test ?_) (by intro q; cases q)
    have ty3 : PySem.W.Looks (model X.prog X.w) h3 (typeOf (.ref a)) cls := fun A Q E s k q => wpAny_typeOf_ref (k _ _ at3) (by rw [z3.1]; exact q)
    have hit := PySem.W.exm_one (M := model X.prog X.w) (J3.kIn) ty3 hm
    have named : ∀ {Q : Value → Shared → Prop} {E : Value → Shared → Prop}, Q c { s1 with heap := h3 } → wpAny (model X.prog X.w) (X.A.mark (some (.ref a))) (eval (.Name x np) X.env) Q E { s1 with heap := h3 } := by
      intro Q E q
      obtain ⟨hg, hdbg, hw | ⟨hw, hv, hnn⟩⟩ := nm
      · exact ld_glob (X := X.suite a ((a, oe3) :: (X.pn ++ pins))) inSuite hg hw q hdbg
      · exact ld_blt (X := X.suite a ((a, oe3) :: (X.pn ++ pins))) inSuite hg hw hv q hnn hdbg
    refine named (hit.here ?_)
    refine codeAny_handlers_suite_as ?_
    refine HandSPX.lands_againZ fly fun h4 fly4 up4 => ?_
    have J4 : Inv X pins τ H1 { s1 with heap := h4 } := J0.landed ground fly4.1 ((upto.trans up3).trans up4) osq bare
    obtain ⟨oe4, vs4, at4, z4, d4⟩ := fly4.there
    have inS4 := J4.suite at4 d4 Ha nloc nfs
    refine store_ok (X := X.suite a ((a, oe4) :: (X.pn ++ pins))) (v := .ref a) inS4 nod ni (Or.inl kn) rfl (fun s5 inS5 => ?_) (.inr kn)
    have hi5 : (τ.set i (some (V.ref a)))[i]? = some (some (V.ref a)) := by
      have hlen : i < τ.length := by
        rw [J0.len]
        exact (List.getElem?_eq_some_iff.mp ni).1
      rw [List.getElem?_set_self hlen]
    refine wpAny_mono ((ps1 a oe4 (X.pn ++ pins)).run [] s5 _ H1 { nx := fun σ' H' => σ' = (τ.set i (some (.ref a))).set j (some (.ref a)) ∧ H' = H1, rt := fun _ _ => False, bk := fun _ _ => False, ct := fun _ _ => False } inS5 ⟨.ref a, hi5, rfl, rfl⟩) (fun fl s6 done => ?_) (fun _ _ z => False.elim z)
    cases fl with
    | next =>
      obtain ⟨σ6, H6, in6, rfl, rfl⟩ := done
      have J6 : Inv X ((a, oe4) :: pins) ((τ.set i (some (.ref a))).set j (some (.ref a))) H6 s6 :=
        ⟨good, in6.os, in6.bare, in6.base, in6.loc, in6.cell, in6.free, in6.freeC, fun q hq => in6.pin q (by
          rw [List.append_nil]
          rcases List.mem_append.mp hq with m | m
          · exact List.mem_cons_of_mem _ (List.mem_append_left _ m)
          · rcases List.mem_cons.mp m with e | m
            · rw [e]; exact List.mem_cons_self
            · exact List.mem_cons_of_mem _ (List.mem_append_right _ m)), in6.hok, in6.len⟩
      refine gone_ok J6 nod ni kn fun s7 J7 => ?_
      exact ⟨_, _, Inv_track J7 z4 d4 gone0 pinOff, go a Ha⟩
    | brk =>
      obtain ⟨_, _, _, z⟩ := done
      exact z.elim
    | cont =>
      obtain ⟨_, _, _, z⟩ := done
      exact z.elim
    | ret u =>
      obtain ⟨_, _, _, _, _, z⟩ := done
      exact z.elim
  refine wpAny_mono ((inner (wKeep X.K c i j D) (X.pn ++ pins) xe tak PassesOwn.looking).run [] s σ H D (I.toTry _) h) (fun fl s1 done => ?_) (fun e s1 he => he)
  cases fl with
  | next =>
    obtain ⟨τ, H1, J1, q⟩ := done
    exact wpAny_execs_nil ⟨τ, H1, J1.ofTry good, q⟩
  | brk =>
    obtain ⟨τ, H1, J1, q⟩ := done
    exact ⟨τ, H1, J1.ofTry good, q⟩
  | cont =>
    obtain ⟨τ, H1, J1, q⟩ := done
    exact ⟨τ, H1, J1.ofTry good, q⟩
  | ret u =>
    obtain ⟨v, τ, H1, J1, rv, q⟩ := done
    exact ⟨v, τ, H1, J1.ofTry good, rv, q⟩
end
end Dl

namespace Dl
open PySem L2 Evl
/-- a caught exception of the class C -/
def excE (C : Addr) : En := .th [(C : Int)] fun G v => ∃ a, v = .ref a ∧ G a = some (ExK (.ref C) a)
/-- isinstance(e, c) of a kept exception -/
def rIsX (K : PySem.W.Frag) : List V → Hp → VK → Prop := fun xs H Q => ∃ (a D : Addr) (c : V) (cv : Value) (b : Bool), xs = [.ref a, c] ∧ H a = some (ExK (.ref D) a) ∧ ExcC K D ∧ (∀ u, RelV c u → u = cv) ∧ PySem.W.kitOne K (.ref D) cv = some b ∧ Q (.bl b) H
theorem cr_isX {X : Cx} : CallR X (.builtin "isinstance") (rIsX X.K) := by
  intro pins s σ H xs us Q I r h
  obtain ⟨a, D, c, cv, b, rfl, ha, C, hcv, e, q⟩ := h
  match us, r with
  | [u1, u2], .cons r1 (.cons r2 .nil) =>
    cases r1
    rw [hcv _ r2]
    obtain ⟨⟨oe, vs, hget, hz, hv⟩, _, _⟩ := I.hok a _ ha
    have at1 : PySem.W.InstAt s.heap a oe D none := by
      obtain ⟨oc, od, oda, osl⟩ := oe
      obtain ⟨h1, h2⟩ := hz
      dsimp only at h1 h2 hv
      subst h1 h2 hv
      exact ⟨hget, rfl, rfl, trivial⟩
    exact PySem.W.kia_one (PySem.W.handS_kitx_exc C.hg C.hk C.hs C.hd C.ha C.hn C.ht C.hm) I.kIn at1 e (fun z => nomatch z) fun tk =>
      ⟨.bl b, H, I.kept (t' := tk) fun _ _ z => z, rfl, q⟩
section
variable {K : PySem.W.Frag} {f : Fx} {s : Sx} {δ : List En} {ta tb te tl to : TE} {tt tu : TT} {P R : Sx → En → Prop} {t u : TS} {p : Po} {n c : Nat} {D C : Addr} {es fs : List En} {r w : List (Addr × List En)}
theorem cd_isX {v : V} {cv : Value} {b : Bool} (hC : ExcC K C) (hv : ∀ u, RelV v u → u = cv) (hk : PySem.W.kitOne K (.ref C) cv = some b) : CD K f (rIsX K) s [excE C, .val v] (Is s (.dat (.bool b))) := fun G H vs Q jj a k => by
  cases a with
  | cons h1 t1 =>
    cases t1 with
    | cons h2 t2 =>
      cases t2
      obtain ⟨G0, e0, ad, rfl, q⟩ := h1
      cases (show _ = v from h2)
      exact ⟨ad, C, v, cv, b, rfl, jj.ex _ _ (e0 _ _ q), hC, hv, hk, fD k jj (.bl _)⟩
theorem excE_inj {C C' : Addr} (h : excE C = excE C') : C = C' := by
  unfold excE at h
  injection h with h1 _
  injection h1 with h2 _
  exact Int.ofNat.inj h2
theorem excE_ne (G : Hp) (v : V) (h : ∃ a, v = .ref a ∧ G a = some (ExK (.ref C) a)) : v ≠ .non := by
  obtain ⟨a, rfl, _⟩ := h
  intro z
  cases z
/-! ### what is raised -/
/-- a way out for exceptions: told by f alone -/
def Xw (K : PySem.W.Frag) (f : Fx) (W : WX) (px : Sx → List En → Addr → Prop) : Prop := ∀ s σ δ G H C, Slots K G σ δ → J K f s G H → px s δ C → W (.ref C) none σ H
def tRaise (W : WX) (C : Addr) : TS := fun _ σ H => W (.ref C) none σ H
theorem sd_raise {W : WX} {px : Sx → List En → Addr → Prop} (hx : Xw K f W px) (h : px s δ C) : SD K f s (tRaise W C) δ p := fun G H σ D sl j _ => hx s σ δ G H C sl j h
/-- a def of data alone that may raise -/
def spX (K : PySem.W.Frag) (A : List En → Prop) (R : List En → En → Prop) (Rx : List En → Addr → Prop) : Sp := fun vs H Q E => ∃ G es, Ex G H ∧ TF G ∧ Vs K G vs es ∧ A es ∧
  (∀ v x G2 H2, Ex G G2 → Ex G2 H2 → Ex H H2 → (∀ b, G2 b ≠ none → G b = none → H b = none) → TF G2 → Ok K G2 v x → R es x → Q v H2) ∧
  ∀ C G2 H2, Ex G G2 → Ex G2 H2 → Ex H H2 → (∀ b, G2 b ≠ none → G b = none → H b = none) → TF G2 → Rx es C → E (.ref C) none H2
theorem ed_callX {A : List En → Prop} {R : List En → En → Prop} {Rx : List En → Addr → Prop} {W : WX} {px : Sx → List En → Addr → Prop} {t : TA} {es : List En} {P : Sx → En → Prop} (hx : Xw K f W px) (h : EA K f s t δ (Is s es)) (a : A es) (i : ∀ x, R es x → P s x) (ix : ∀ C, Rx es C → px s δ C) :
    ED K f s (tCallS (spX K A R Rx) (WE W) t) δ P := fun G H σ Q sl b c =>
  h G H σ _ sl b fun vs xs s1 G1 H1 e1 j1 o1 p1 => by
    obtain ⟨rfl, rfl⟩ := p1
    exact ⟨G1, _, j1.ex, j1.tf, o1, a, fun w x G2 H2 x1 x2 x3 fr t2 o r => c w x _ G2 H2 (e1.trans x1) (j1.pure x1 x2 x3 fr t2) o (i x r),
      fun C G2 H2 x1 x2 x3 fr t2 r => hx _ σ δ G2 H2 C (Slots.mono (e1.trans x1) sl) (j1.pure x1 x2 x3 fr t2) (ix C r)⟩
/-- .. of a def that raises nothing, as if it might -/
theorem spX_len {A : List En → Prop} {R : List En → En → Prop} {Rx : List En → Addr → Prop} {n : Nat} (hA : ∀ es, A es → es.length = n) (vs : List V) (H : Hp) (Q : VK) (E : XK) (h : spX K A R Rx vs H Q E) : vs.length = n := by
  obtain ⟨G, es, _, _, v, a, _⟩ := h
  rw [v.len, hA es a]
theorem run_pureX {A : List En → Prop} {R : List En → En → Prop} {Rx : List En → Addr → Prop} {N : List Str} {vs : List V} {H : Hp} {Q : VK} {E : XK} (h : spX K A R Rx vs H Q E)
    (hb : ∀ f s es, A es → Xw K f (fun cls d _ H' => E cls d H') (fun _ _ C => Rx es C) → SD K f s t (es ++ List.replicate (N.length - es.length) .no) ⟨fun _ _ => R es (.dat .none), fun _ x => R es x, fun _ _ => False, fun _ _ => False⟩) : t { nx := fun _ H' => Q .non H', rt := Q } (start N vs) H := by
  obtain ⟨G, es, e, tf, v, a, k, kx⟩ := h
  have jj : J K ⟨none, H, G⟩ ⟨0, []⟩ G H := ⟨e, (fun D es m => by cases m), List.nodup_nil, (fun p c z => by cases z), fun b o _ z => z, Ex.refl G, fun b h1 h2 => absurd h2 h1, tf⟩
  have np : ∀ b, ¬ isPu (⟨none, H, G⟩ : Fx) b := fun b ⟨p, c, z, _⟩ => by cases z
  have sl : Slots K G (start N vs) (es ++ List.replicate (N.length - es.length) .no) := by
    unfold L2.start
    rw [v.len]
    exact Slots.start v _
  refine hb ⟨none, H, G⟩ ⟨0, []⟩ es a (fun s' σ' δ' G2 H2 C _ j2 r => ?_) G H _ _ sl jj ⟨fun σ δ s' G2 H2 e2 j2 _ r => ?_, fun w x s' G2 H2 e2 j2 o r => ?_, fun _ _ _ _ _ _ _ _ z => z.elim, fun _ _ _ _ _ _ _ _ z => z.elim⟩
  · exact kx C G2 H2 j2.g0 j2.ex (fun b o z => j2.fr b o (np b) z) j2.fs j2.tf r
  · exact k .non (.dat .none) G2 H2 e2 j2.ex (fun b o z => j2.fr b o (np b) z) j2.fs j2.tf .non r
  · exact k w x G2 H2 e2 j2.ex (fun b o z => j2.fr b o (np b) z) j2.fs j2.tf o r
/-- .. by keywords -/
def tCallKS (sp : Sp) (gV : List V → List V → List V) (E : St → XK) (t tk : TA) : TE := fun σ H Q => t σ H fun vs H1 => tk σ H1 fun zs H2 => sp (gV vs zs) H2 Q (E σ)
/-- try .. except C as e: y = e; the lists of our own are not told within -/
theorem sd_try {tb : WX → TS} {cc : Value} {i j : Nat} (hb : ∀ f' W, f'.pu = f.pu → Xw K f' W (fun s' δ' C => s'.own = [] ∧ PySem.W.exmOne K (.ref C) cc = some true ∧ p.nx ⟨s'.n, s.own⟩ (((δ'.set i (excE C)).set j (excE C)).set i .no)) →
      SD K f' ⟨s.n, []⟩ (tb W) δ ⟨fun s' δ' => s'.own = [] ∧ p.nx ⟨s'.n, s.own⟩ δ', fun s' x => s'.own = [] ∧ p.rt ⟨s'.n, s.own⟩ x, fun s' δ' => s'.own = [] ∧ p.bk ⟨s'.n, s.own⟩ δ', fun s' δ' => s'.own = [] ∧ p.ct ⟨s'.n, s.own⟩ δ'⟩) :
    SD K f s (tTry K cc i j tb) δ p := fun G H σ D sl jj c => by
  unfold tTry
  have own1 : ∀ s' : Sx, s'.own = [] → s' = ⟨s'.n, []⟩ := fun s' e => by
    obtain ⟨m, o⟩ := s'
    cases e
    rfl
  refine hb ⟨f.pu, H, G⟩ _ rfl (fun s' σ' δ' G2 H2 C sl2 j2 q => ?_) G H σ D sl (J.enter (n := s.n) (r := s.own) jj) ⟨fun σ' δ' s' G2 H2 e2 j2 sl2 q => ?_, fun v x s' G2 H2 e2 j2 o q => ?_, fun σ' δ' s' G2 H2 e2 j2 sl2 q => ?_, fun σ' δ' s' G2 H2 e2 j2 sl2 q => ?_⟩
  · obtain ⟨q1, q2, q3⟩ := q
    refine ⟨q2, rfl, fun a ha => ?_⟩
    rw [own1 s' q1] at j2
    have ea : Ex G2 (upd G2 a (ExK (.ref C) a)) := Ex.new (fresh_back j2.ex ha)
    have oa : Ok K (upd G2 a (ExK (.ref C) a)) (.ref a) (excE C) := ⟨_, Ex.refl _, a, rfl, upd_same⟩
    have j3 := J.leave (n := s.n) (r := s.own) jj (j2.alloc ha (ExK (.ref C) a) trivial)
    exact c.nx _ _ _ _ _ (Ex.trans (show Ex G G2 from j2.g0) ea) j3 (Slots.set (x := .no) (v := none) trivial i (Slots.set (SOk.of oa) j (Slots.set (SOk.of oa) i (Slots.mono ea sl2)))) q3
  · rw [own1 s' q.1] at j2
    exact c.nx σ' δ' _ G2 H2 e2 (J.leave (n := s.n) (r := s.own) jj j2) sl2 q.2
  · rw [own1 s' q.1] at j2
    exact c.rt v x _ G2 H2 e2 (J.leave (n := s.n) (r := s.own) jj j2) o q.2
  · rw [own1 s' q.1] at j2
    exact c.bk σ' δ' _ G2 H2 e2 (J.leave (n := s.n) (r := s.own) jj j2) sl2 q.2
  · rw [own1 s' q.1] at j2
    exact c.ct σ' δ' _ G2 H2 e2 (J.leave (n := s.n) (r := s.own) jj j2) sl2 q.2
end
section
variable {X : Cx} {CX : CXT} {k : Nat} {f : Addr} {fd : FuncData} {ps ks : List Str} {sp : Sp} {x : Str} {p pos : Pos} {E : St → XK} {g : List Value → List Value → List Value} {gV : List V → List V → List V} {kws : List Keyword} {t tk : TA} {e : Expr} {es : List Expr}
theorem run_keyS {pins : List (Addr × Obj)} {σ : St} {H : Hp} {s : Shared} {Q : VK} {us ws : List Value} {vs zs : List V} (F : FnOk X.prog X.w X.K X.mg X.base CX k f fd ps sp) (hr : Room k X.A) (hb : KBinds X.K fd ps ks g gV) (hx : PassesAt CX X σ (E σ))
    (I : Inv X pins σ H s) (r : Vals vs us) (rz : Vals zs ws) (h : sp (gV vs zs) H Q (E σ)) : wpAny (model X.prog X.w) X.A (call (.ref f) us (ks.zip ws)) (EP X pins σ Q) X.xe s := by
  have both := hb.rel r rz
  have fits : (g us ws).length = ps.length := both.length ▸ F.len _ _ _ _ h
  refine wpAny_call (codeAny_mono (F.run X.A X.stack s H ⟨us, ks.zip ws⟩ (g us ws) (gV vs zs) Q (E σ) hr I.env0 (hb.to s us ws I.kIn fits) both h) fun out s' hq => ?_)
  rcases out with er | (u | _ | _ | _)
  · first
      | exact hx pins H s er s' I hq
      | exact I.after hq
      | exact hq.elim
  all_goals first
    | exact I.after hq
    | exact False.elim hq
theorem pe_callKS (F : FnOk X.prog X.w X.K X.mg X.base CX k f fd ps sp) (hr : Room k X.A) (hg : Gl X x) (hm : X.mg x = some (.ref f)) (hk : PySem.W.keepIn X.K (.ref f) = true) (hb : KBinds X.K fd ps ks g gV) (hx : ∀ σ, PassesAt CX X σ (E σ))
    (ha : PA X (e :: es) t) (hkw : PK X kws tk) (hall : (backToKw pos (keywordEach kws X.env)).all (·.1.isSome) = true := by rfl) (hks : (backToKw pos (keywordEach kws X.env)).filterMap (·.1) = ks := by rfl)
    (hdb : (x == ("__debug__" : Str)) = false := by decide) (he : starEach (e :: es) X.env = (false, eval e X.env) :: starEach es X.env := by rfl) (hpl : ((backTo pos (starEach (e :: es) X.env)).any (·.1) || (backToKw pos (keywordEach kws X.env)).any (·.1.isNone)) = false := by rfl) : PE X (.Call (.Name x p) (e :: es) kws pos) (tCallKS sp gV E t tk) :=
  ⟨fun pins s σ H Q I h => wpAny_Call_Name_kw (ld_glob I hg hm (PySem.W.callWith_KW (h₀ := X.base) I.ok.mod.kin hk hall (thn (ha.run pos pins s σ H _ I h) fun us s1 ⟨vs, H1, I1, r, q⟩ =>
    thn (hkw.run pos pins s1 σ H1 _ I1 q) fun ws s2 ⟨zs, H2, I2, rz, q2⟩ => ⟨I2.kIn, by rw [hks]; exact run_keyS F hr hb (hx σ) I2 r rz q2⟩) hpl he) hdb)⟩
theorem pe_callK0S (F : FnOk X.prog X.w X.K X.mg X.base CX k f fd ps sp) (hr : Room k X.A) (hg : Gl X x) (hm : X.mg x = some (.ref f)) (hk : PySem.W.keepIn X.K (.ref f) = true) (hb : KBinds X.K fd ps ks g gV) (hx : ∀ σ, PassesAt CX X σ (E σ))
    (hkw : PK X kws tk) (hall : (backToKw pos (keywordEach kws X.env)).all (·.1.isSome) = true := by rfl) (hks : (backToKw pos (keywordEach kws X.env)).filterMap (·.1) = ks := by rfl)
    (hdb : (x == ("__debug__" : Str)) = false := by decide) (hpl : ((backTo pos (starEach [] X.env)).any (·.1) || (backToKw pos (keywordEach kws X.env)).any (·.1.isNone)) = false := by rfl) : PE X (.Call (.Name x p) [] kws pos) (tCallKS sp gV E tNil tk) :=
  ⟨fun pins s σ H Q I h => wpAny_Call_Name_kw (ld_glob I hg hm (PySem.W.callWith_KW0 (h₀ := X.base) I.ok.mod.kin hk hall (thn (hkw.run pos pins s σ H _ I h) fun ws s2 ⟨zs, H2, I2, rz, q2⟩ =>
    ⟨I2.kIn, by rw [hks]; exact run_keyS (us := []) (vs := []) F hr hb (hx σ) I2 .nil rz q2⟩) hpl) hdb)⟩
end
section
variable {K : PySem.W.Frag} {f : Fx} {s : Sx} {δ : List En}
theorem ed_callKX {A : List En → Prop} {R : List En → En → Prop} {Rx : List En → Addr → Prop} {W : WX} {px : Sx → List En → Addr → Prop} {t tk : TA} {gV : List V → List V → List V} {es fs : List En} {P : Sx → En → Prop} (hx : Xw K f W px) (h : EA K f s t δ (Is s es)) (hk : EA K f s tk δ (Is s fs)) (gs : List En)
    (hg : ∀ G vs zs, Vs K G vs es → Vs K G zs fs → Vs K G (gV vs zs) gs) (a : A gs) (i : ∀ x, R gs x → P s x) (ix : ∀ C, Rx gs C → px s δ C) : ED K f s (tCallKS (spX K A R Rx) gV (WE W) t tk) δ P := fun G H σ Q sl b c =>
  h G H σ _ sl b fun vs xs s1 G1 H1 e1 j1 o1 p1 => by
    obtain ⟨rfl, rfl⟩ := p1
    refine hk G1 H1 σ _ (Slots.mono e1 sl) j1 fun zs ys s2 G2 H2 e2 j2 o2 p2 => ?_
    obtain ⟨rfl, rfl⟩ := p2
    have e12 := e1.trans e2
    exact ⟨G2, gs, j2.ex, j2.tf, hg G2 vs zs (Vs.mono e2 o1) o2, a, fun w x G3 H3 x1 x2 x3 fr t2 o r => c w x _ G3 H3 (e12.trans x1) (j2.pure x1 x2 x3 fr t2) o (i x r),
      fun C G3 H3 x1 x2 x3 fr t2 r => hx _ σ δ G3 H3 C (Slots.mono (e12.trans x1) sl) (j2.pure x1 x2 x3 fr t2) (ix C r)⟩
end
end Dl

namespace Dl
open PySem L2 Evl
/-! ### classes of refusal -/
/-- a class that may be raised, caught and asked for: one look at the written part; CE: the class that an except names -/
def raiB (K : PySem.W.Frag) (C CE : Addr) : Bool :=
  PySem.W.excIn K C [.type "ValueError", .type "Exception", .type "BaseException", .type "object"] "ValueError.__new__" && PySem.W.keepIn K (.ref C)
    && (PySem.W.subIn K (.ref C) (.type "BaseException") == some true) && (PySem.W.typeIn K (.ref C) == some (.type "type")) && (PySem.W.exmOne K (.ref C) (.ref CE) == some true)
def askB (K : PySem.W.Frag) (D : Addr) : Bool :=
  (PySem.W.findIn K (.ref D) "__getattribute__" == some (some (.builtin "BaseException.__getattribute__"))) && (PySem.W.findIn K (.ref D) "__getattr__" == some none)
    && (PySem.W.subIn K (.ref D) (.type "BaseException") == some true) && PySem.W.hasDictIn K D && (PySem.W.findIn K (.ref D) "__class__" == some (some (.builtin "object.__class__")))
    && (PySem.W.specialIn K (.builtin "object.__class__") "__get__" == some (some (.builtin "getset_descriptor.__get__"))) && (PySem.W.takesIn K (.builtin "object.__class__") == some true) && (PySem.W.mroIn K D (.type "object") == some true)
    && (PySem.W.kitOne K (.ref D) (.type "ValueError") == some true)
structure Rai (K : PySem.W.Frag) (mg : Str → Option Value) (x : Str) (C : Addr) : Prop where
  g : mg x = some (.ref C)
  x : PySem.W.excIn K C [.type "ValueError", .type "Exception", .type "BaseException", .type "object"] "ValueError.__new__" = true
  k : PySem.W.keepIn K (.ref C) = true
  b : PySem.W.subIn K (.ref C) (.type "BaseException") = some true
  t : PySem.W.typeIn K (.ref C) = some (.type "type")
theorem rai_of {K : PySem.W.Frag} {mg : Str → Option Value} {x : Str} {C CE : Addr} (g : mg x = some (.ref C)) (h : raiB K C CE = true) : Rai K mg x C ∧ PySem.W.exmOne K (.ref C) (.ref CE) = some true := by
  unfold raiB at h
  simp only [Bool.and_eq_true, beq_iff_eq] at h
  obtain ⟨⟨⟨⟨h1, h2⟩, h3⟩, h4⟩, h5⟩ := h
  exact ⟨⟨g, h1, h2, h3, h4⟩, h5⟩
theorem ask_of {K : PySem.W.Frag} {D : Addr} (h : askB K D = true) : ExcC K D ∧ PySem.W.kitOne K (.ref D) (.type "ValueError") = some true := by
  unfold askB at h
  simp only [Bool.and_eq_true, beq_iff_eq] at h
  obtain ⟨⟨⟨⟨⟨⟨⟨⟨h1, h2⟩, h3⟩, h4⟩, h5⟩, h6⟩, h7⟩, h8⟩, h9⟩ := h
  exact ⟨⟨h1, h2, h3, h4, h5, h6, h7, h8⟩, h9⟩
theorem ps_raiseT {X : Cx} {W : WX} {C : Addr} {x m : Str} {j : Nat} {p p2 pos pos2 : Pos} (hc : X.calm = true) (tk : Takes X W) (R : Rai X.K X.mg x C) (hg : Gl X x) (hdb : (x == ("__debug__" : Str)) = false := by decide) :
    PS X (.Raise (some (.Call (.Name x p) [.Constant (.str m) j p2] [] pos)) none pos2) (tRaise W C) := ps_raise hc tk (pmk_own PySem.F.excBase_ValueError R.x R.g R.k (raises_own R.b R.t) hg hdb)
/-- of which of the classes cs an exception of D is -/
def kitAll (K : PySem.W.Frag) (D : Addr) : List Addr → List Bool → Bool
  | [], [] => true
  | c :: cs, b :: bs => (PySem.W.kitOne K (.ref D) (.ref c) == some b) && kitAll K D cs bs
  | _, _ => false
theorem kitAll_get {K : PySem.W.Frag} {D : Addr} : ∀ {cs : List Addr} {bs : List Bool}, kitAll K D cs bs = true → ∀ {i : Nat} {c : Addr}, cs[i]? = some c → ∃ b, bs[i]? = some b ∧ PySem.W.kitOne K (.ref D) (.ref c) = some b
  | c :: cs, b :: bs, h, 0, _, e => by
    simp only [List.getElem?_cons_zero, Option.some.injEq] at e
    subst e
    unfold kitAll at h
    exact ⟨b, rfl, beq_iff_eq.mp (Bool.and_eq_true_iff.mp h).1⟩
  | c :: cs, b :: bs, h, i + 1, _, e => by
    unfold kitAll at h
    obtain ⟨b', h1, h2⟩ := kitAll_get (Bool.and_eq_true_iff.mp h).2 (i := i) (by simpa using e)
    exact ⟨b', by simpa using h1, h2⟩
  | [], _, _, _, _, e => by simp at e
  | _ :: _, [], h, _, _, _ => by cases h
def indB (n i : Nat) : List Bool := (List.range n).map fun j => decide (j = i)
theorem kit_at {K : PySem.W.Frag} {D : Addr} {cs : List Addr} {n i j : Nat} {c : Addr} (h : kitAll K D cs (indB n i) = true) (e : cs[j]? = some c) : PySem.W.kitOne K (.ref D) (.ref c) = some (decide (j = i)) := by
  obtain ⟨b, h1, h2⟩ := kitAll_get h e
  unfold indB at h1
  rw [List.getElem?_map] at h1
  obtain ⟨k, hk, rfl⟩ := Option.map_eq_some_iff.mp h1
  have := List.getElem?_eq_some_iff.mp hk
  obtain ⟨_, e2⟩ := this
  rw [List.getElem_range] at e2
  rw [h2, e2]
section
variable {K : PySem.W.Frag} {f : Fx} {s : Sx} {δ : List En} {ta te : TE} {C : Addr}
theorem relv_ref {c : Addr} {u : Value} (h : RelV (.ref c) u) : u = .ref c := by
  cases h
  rfl
theorem ed_isCls {c : Addr} {b : Bool} (hC : ExcC K C) (h : ED K f s te δ (Is s (excE C))) (hk : PySem.W.kitOne K (.ref C) (.ref c) = some b) : ED K f s (tCB (rIsX K) (tCons te (tCons (tC (.ref c)) tNil))) δ (Is s (.dat (.bool b))) :=
  ed_cb (ea_cons h (ea_cons ed_c ea_nil)) (cd_isX hC (fun u r => relv_ref r) hk)
theorem relv_ty {n : String} {u : Value} (h : RelV (.ty n) u) : u = .type n := by
  cases h
  rfl
theorem ed_isClsT {n : String} {b : Bool} (hC : ExcC K C) (h : ED K f s te δ (Is s (excE C))) (hk : PySem.W.kitOne K (.ref C) (.type n) = some b) : ED K f s (tCB (rIsX K) (tCons te (tCons (tC (.ty n)) tNil))) δ (Is s (.dat (.bool b))) :=
  ed_cb (ea_cons h (ea_cons ed_c ea_nil)) (cd_isX hC (fun u r => relv_ty r) hk)
end
section
variable {K : PySem.W.Frag} {f : Fx} {s : Sx} {δ : List En} {ta te : TE} {tt tu : TT}
theorem et_testN {PT : Sx → Bool → Prop} (h : ED K f s te δ (fun s' x => ∃ b, x = .dat (.bool b) ∧ PT s' b)) : ET K f s (tTest te) δ PT := fun G H σ Q sl j c => h G H σ _ sl j fun v x s1 G1 H1 e1 j1 o1 p1 => by
  obtain ⟨b, rfl, q⟩ := p1
  cases o1
  exact ⟨_, rfl, c _ _ G1 H1 e1 j1 q⟩
theorem et_orN {PT P : Sx → Bool → Prop} (h1 : ET K f s tt δ PT) (h2 : ∀ s1, PT s1 false → ET K f s1 tu δ P) (h3 : ∀ s1, PT s1 true → P s1 true) : ET K f s (tOr tt tu) δ P := fun G H σ Q sl j c => h1 G H σ _ sl j fun v s1 G1 H1 e1 j1 p1 => by
  cases v with
  | true =>
    show Q true H1
    exact c _ _ G1 H1 e1 j1 (h3 s1 p1)
  | false =>
    show tu σ H1 Q
    exact h2 s1 p1 G1 H1 σ Q (Slots.mono e1 sl) j1 fun v s2 G2 H2 e2 j2 p2 => c v s2 G2 H2 (e1.trans e2) j2 p2
end
end Dl

namespace My
open PySem L2 Evl Dl
def topS (i : Nat) : Stmt := PySem.Challenge.pw_thirtycubes_k07_paints_looked_at.main.body.getD i (.Pass ⟨0, 0, 0, 0⟩)
abbrev s_is_whole : Stmt := topS 23
abbrev N_is_whole : List Str := ["thing"]
theorem sc_is_whole : FnScope N_is_whole ["thing"] (defScope s_is_whole) := ⟨rfl, rfl, rfl, by decide +kernel, rfl, by decide +kernel, by decide +kernel⟩
abbrev s_are_six_whole : Stmt := topS 24
abbrev N_are_six_whole : List Str := ["thing", "part"]
theorem sc_are_six_whole : FnScope N_are_six_whole ["thing"] (defScope s_are_six_whole) := ⟨rfl, rfl, rfl, by decide +kernel, rfl, by decide +kernel, by decide +kernel⟩
abbrev s_is_turn : Stmt := topS 27
abbrev N_is_turn : List Str := ["thing"]
theorem sc_is_turn : FnScope N_is_turn ["thing"] (defScope s_is_turn) := ⟨rfl, rfl, rfl, by decide +kernel, rfl, by decide +kernel, by decide +kernel⟩
abbrev s_check_turn : Stmt := topS 28
abbrev N_check_turn : List Str := ["turn"]
theorem sc_check_turn : FnScope N_check_turn ["turn"] (defScope s_check_turn) := ⟨rfl, rfl, rfl, by decide +kernel, rfl, by decide +kernel, by decide +kernel⟩
abbrev s_is_paints : Stmt := topS 30
abbrev N_is_paints : List Str := ["thing"]
theorem sc_is_paints : FnScope N_is_paints ["thing"] (defScope s_is_paints) := ⟨rfl, rfl, rfl, by decide +kernel, rfl, by decide +kernel, by decide +kernel⟩
abbrev s_check_paints : Stmt := topS 31
abbrev N_check_paints : List Str := ["paints"]
theorem sc_check_paints : FnScope N_check_paints ["paints"] (defScope s_check_paints) := ⟨rfl, rfl, rfl, by decide +kernel, rfl, by decide +kernel, by decide +kernel⟩
abbrev s_look : Stmt := topS 32
abbrev N_look : List Str := ["paints", "turn", "shown", "paint", "side"]
theorem sc_look : FnScope N_look ["paints", "turn"] (defScope s_look) := ⟨rfl, rfl, rfl, by decide +kernel, rfl, by decide +kernel, by decide +kernel⟩
abbrev s_turned : Stmt := topS 33
abbrev N_turned : List Str := ["paints", "turn"]
theorem sc_turned : FnScope N_turned ["paints", "turn"] (defScope s_turned) := ⟨rfl, rfl, rfl, by decide +kernel, rfl, by decide +kernel, by decide +kernel⟩
abbrev s__law_purse : Stmt := topS 35
abbrev N__law_purse : List Str := ["_law_script", "_law_cells", "_law_k"]
theorem sc__law_purse : FnScope N__law_purse ["_law_script"] (defScope s__law_purse) := ⟨rfl, rfl, rfl, by decide +kernel, rfl, by decide +kernel, by decide +kernel⟩
abbrev s__law_draw : Stmt := topS 36
abbrev N__law_draw : List Str := ["_law_purse_here", "_law_out_of", "_law_cells", "_law_went", "_law_at", "_law_cell", "_law_number", "_law_other"]
theorem sc__law_draw : FnScope N__law_draw ["_law_purse_here", "_law_out_of"] (defScope s__law_draw) := ⟨rfl, rfl, rfl, by decide +kernel, rfl, by decide +kernel, by decide +kernel⟩
abbrev s__law_whole : Stmt := topS 37
abbrev N__law_whole : List Str := ["_law_piece"]
theorem sc__law_whole : FnScope N__law_whole ["_law_piece"] (defScope s__law_whole) := ⟨rfl, rfl, rfl, by decide +kernel, rfl, by decide +kernel, by decide +kernel⟩
abbrev s__law_mixed : Stmt := topS 38
abbrev N__law_mixed : List Str := ["_law_purse_here", "_law_some", "_law_left", "_law_found"]
theorem sc__law_mixed : FnScope N__law_mixed ["_law_purse_here", "_law_some"] (defScope s__law_mixed) := ⟨rfl, rfl, rfl, by decide +kernel, rfl, by decide +kernel, by decide +kernel⟩
abbrev s__law_then : Stmt := topS 39
abbrev N__law_then : List Str := ["_law_first", "_law_second", "_law_side"]
theorem sc__law_then : FnScope N__law_then ["_law_first", "_law_second"] (defScope s__law_then) := ⟨rfl, rfl, rfl, by decide +kernel, rfl, by decide +kernel, by decide +kernel⟩
abbrev s__law_turns : Stmt := topS 40
abbrev N__law_turns : List Str := ["_law_found", "_law_at", "_law_quarter", "_law_more"]
theorem sc__law_turns : FnScope N__law_turns [] (defScope s__law_turns) := ⟨rfl, rfl, rfl, by decide +kernel, rfl, by decide +kernel, by decide +kernel⟩
abbrev s__law_coat : Stmt := topS 41
abbrev N__law_coat : List Str := ["_law_purse_here", "_law_few", "_law_found", "_law_way", "_law_side", "_law_tone"]
theorem sc__law_coat : FnScope N__law_coat ["_law_purse_here"] (defScope s__law_coat) := ⟨rfl, rfl, rfl, by decide +kernel, rfl, by decide +kernel, by decide +kernel⟩
abbrev s__law_bent : Stmt := topS 42
abbrev N__law_bent : List Str := ["_law_purse_here", "_law_coat_here", "_law_way", "_law_at", "_law_odd", "_law_some"]
theorem sc__law_bent : FnScope N__law_bent ["_law_purse_here", "_law_coat_here"] (defScope s__law_bent) := ⟨rfl, rfl, rfl, by decide +kernel, rfl, by decide +kernel, by decide +kernel⟩
abbrev s__law_spoiled : Stmt := topS 43
abbrev N__law_spoiled : List Str := ["_law_purse_here", "_law_spun", "_law_way", "_law_one", "_law_other", "_law_sides", "_law_odd", "_law_some", "_law_side"]
theorem sc__law_spoiled : FnScope N__law_spoiled ["_law_purse_here", "_law_spun"] (defScope s__law_spoiled) := ⟨rfl, rfl, rfl, by decide +kernel, rfl, by decide +kernel, by decide +kernel⟩
abbrev s__law_marks : Stmt := topS 44
abbrev N__law_marks : List Str := ["_law_caught", "_law_hits", "_law_words", "_law_found", "_law_word", "_law_hit"]
theorem sc__law_marks : FnScope N__law_marks ["_law_caught"] (defScope s__law_marks) := ⟨rfl, rfl, rfl, by decide +kernel, rfl, by decide +kernel, by decide +kernel⟩
abbrev s__law_refused : Stmt := topS 45
abbrev N__law_refused : List Str := ["_law_coat_here", "_law_spun", "_law_way", "_law_caught", "e"]
theorem sc__law_refused : FnScope N__law_refused ["_law_coat_here", "_law_spun", "_law_way"] (defScope s__law_refused) := ⟨rfl, rfl, rfl, by decide +kernel, rfl, by decide +kernel, by decide +kernel⟩
abbrev s__law_six : Stmt := topS 46
abbrev N__law_six : List Str := ["_law_piece", "_law_part"]
theorem sc__law_six : FnScope N__law_six ["_law_piece"] (defScope s__law_six) := ⟨rfl, rfl, rfl, by decide +kernel, rfl, by decide +kernel, by decide +kernel⟩
abbrev s_law : Stmt := topS 47
abbrev N_law : List Str := ["_law_script", "_law_purse_here", "_law_some", "_law_k", "_law_coat_here", "_law_spun", "_law_drawn", "_law_right", "_law_found", "_law_due"]
theorem sc_law : FnScope N_law ["_law_script"] (defScope s_law) := ⟨rfl, rfl, rfl, by decide +kernel, rfl, by decide +kernel, by decide +kernel⟩
section
variable {P : Program} {w : World} {K : PySem.W.Frag} {mg : Str → Option Value} {base : Heap}
variable {c_CubeError c_NoBack c_NoBase c_NoChange c_NoCounts c_NoCube c_NoCubes c_NoFit c_NoName c_NoNumber c_NoPaints c_NoPalette c_NoPaper c_NoPlace c_NoRow c_NoSix c_NoStock c_NoText c_NoTurn c_NoWord c_TooMany : Addr}

def TURNS : List (List Int) := [[0, 1, 2, 3, 4, 5], [0, 1, 3, 2, 5, 4], [0, 1, 4, 5, 3, 2], [0, 1, 5, 4, 2, 3], [1, 0, 2, 3, 5, 4], [1, 0, 3, 2, 4, 5], [1, 0, 4, 5, 2, 3], [1, 0, 5, 4, 3, 2], [2, 3, 0, 1, 5, 4], [2, 3, 1, 0, 4, 5], [2, 3, 4, 5, 0, 1], [2, 3, 5, 4, 1, 0], [3, 2, 0, 1, 4, 5], [3, 2, 1, 0, 5, 4], [3, 2, 4, 5, 1, 0], [3, 2, 5, 4, 0, 1], [4, 5, 0, 1, 2, 3], [4, 5, 1, 0, 3, 2], [4, 5, 2, 3, 1, 0], [4, 5, 3, 2, 0, 1], [5, 4, 0, 1, 3, 2], [5, 4, 1, 0, 2, 3], [5, 4, 2, 3, 0, 1], [5, 4, 3, 2, 1, 0]]
def STILLn : List Int := [0, 1, 2, 3, 4, 5]
def QUARTS : List (List Int) := [[0, 1, 4, 5, 3, 2], [5, 4, 2, 3, 0, 1], [2, 3, 1, 0, 4, 5]]
/-- the one, then the other -/
def thenL (a b : List Int) : List Int := a.map fun i => b.getD i.toNat 0
def isWholeD : PyData → Bool
  | .int _ => true
  | _ => false
def isSixD : PyData → Bool
  | .tuple ds => ds.length == 6 && (ds.map isWholeD).all id
  | _ => false
theorem hu5_of {A : Around} {k : Nat} (hr : Room k A) : A.units + 65 < cLine := by have := hr.un; omega
theorem atI_thenL {a b : List Int} (h : ∀ i ∈ a, 0 ≤ i ∧ i.toNat < b.length) {i : Int} (hi : i ∈ a) : atI (b.map PyData.int) i = some (.int (b.getD i.toNat 0)) := by
  obtain ⟨h0, h1⟩ := h i hi
  have q := atI_nat (xs := b.map PyData.int) (j := i.toNat) (v := .int (b.getD i.toNat 0)) (by
    rw [List.getElem?_map, List.getD_eq_getElem?_getD, List.getElem?_eq_getElem h1]
    simp)
  rw [Int.toNat_of_nonneg h0] at q
  exact q
def WTAB : List (List Int × Str) := [([0, 1, 2, 3, 4, 5], ""), ([0, 1, 3, 2, 5, 4], "uu"), ([0, 1, 4, 5, 3, 2], "u"), ([0, 1, 5, 4, 2, 3], "uuu"), ([1, 0, 2, 3, 5, 4], "ff"), ([1, 0, 3, 2, 4, 5], "rr"), ([1, 0, 4, 5, 2, 3], "ffu"), ([1, 0, 5, 4, 3, 2], "rru"), ([2, 3, 0, 1, 5, 4], "fuf"), ([2, 3, 1, 0, 4, 5], "r"), ([2, 3, 4, 5, 0, 1], "fu"), ([2, 3, 5, 4, 1, 0], "frru"), ([3, 2, 0, 1, 4, 5], "rrr"), ([3, 2, 1, 0, 5, 4], "ffr"), ([3, 2, 4, 5, 1, 0], "fffu"), ([3, 2, 5, 4, 0, 1], "fuuu"), ([4, 5, 0, 1, 2, 3], "ffuf"), ([4, 5, 1, 0, 3, 2], "ru"), ([4, 5, 2, 3, 1, 0], "fff"), ([4, 5, 3, 2, 0, 1], "fuu"), ([5, 4, 0, 1, 3, 2], "uf"), ([5, 4, 1, 0, 2, 3], "fr"), ([5, 4, 2, 3, 0, 1], "f"), ([5, 4, 3, 2, 1, 0], "frr")]
theorem wtab_nd : (WTAB.map (·.1)).Nodup := by decide +kernel
theorem wtab_keys : WTAB.map (·.1) = TURNS := by decide +kernel
theorem wtab_find (ns : List Int) : (WTAB.find? (fun y => decide (y.1 = ns))).isSome = decide (ns ∈ TURNS) := by
  rw [← wtab_keys]
  generalize WTAB = l
  induction l with
  | nil => simp
  | cons x l ih =>
    by_cases h : x.1 = ns
    · rw [List.find?_cons_of_pos (by simpa using h)]
      simp [h]
    · rw [List.find?_cons_of_neg (by simpa using h), ih]
      have h' : ¬ ns = x.1 := fun z => h z.symm
      simp [h']

def aAny : List En → Prop := fun es => ∃ d, es = [.dat d]
def fIsWhole : List En → En → Prop := fun es x => ∀ d, es = [.dat d] → x = .dat (.bool (isWholeD d))
def fSix : List En → En → Prop := fun es x => ∀ d, es = [.dat d] → x = .dat (.bool (isSixD d))
def isTurnD (d : PyData) : Bool := isSixD d && (TURNS.map tupD).any fun z => PyData.eqv z d
def fIsTurn : List En → En → Prop := fun es x => ∀ d, es = [.dat d] → x = .dat (.bool (isTurnD d))
def aTurn : List En → Prop := fun es => ∃ a, a ∈ TURNS ∧ es = [.dat (tupD a)]
def aTwo : List En → Prop := fun es => ∃ a b, a ∈ TURNS ∧ b ∈ TURNS ∧ es = [.dat (tupD a), .dat (tupD b)]
def aJoin : List En → Prop := fun es => ∃ a b, (∀ i ∈ a, 0 ≤ i ∧ i.toNat < b.length) ∧ a.length ≤ 1000 ∧ es = [.dat (tupD a), .dat (tupD b)]
def fNone : List En → En → Prop := fun _ x => x = .dat .none
def fJoin : List En → En → Prop := fun es x => ∀ a b, es = [.dat (tupD a), .dat (tupD b)] → x = .dat (tupD (thenL a b))
theorem int_inj : ∀ {a b : List Int}, a.map PyData.int = b.map PyData.int → a = b
  | [], [], _ => rfl
  | x :: xs, y :: ys, h => by
    simp only [List.map_cons, List.cons.injEq, PyData.int.injEq] at h
    rw [h.1, int_inj h.2]
  | [], _ :: _, h => by simp at h
  | _ :: _, [], h => by simp at h
theorem tupD_inj {a b : List Int} (h : tupD a = tupD b) : a = b := by
  unfold tupD at h
  injection h with h
  exact int_inj h
theorem dat_inj {a b : List Int} (h : En.dat (tupD a) = En.dat (tupD b)) : a = b := by
  injection h with h
  exact tupD_inj h
theorem six_ints : ∀ {ds : List PyData}, (ds.map isWholeD).all id = true → ∃ ns : List Int, ds = ns.map .int
  | [], _ => ⟨[], rfl⟩
  | d :: ds, h => by
    rw [List.map_cons, List.all_cons, Bool.and_eq_true] at h
    obtain ⟨ns, e⟩ := six_ints h.2
    cases d with
    | int i => exact ⟨i :: ns, by rw [e]; rfl⟩
    | _ => cases h.1
theorem turn_ok : ∀ a ∈ TURNS, ∀ b ∈ TURNS, ∀ i ∈ a, 0 ≤ i ∧ i.toNat < b.length := by decide +kernel
theorem turn_len : ∀ a ∈ TURNS, a.length = 6 := by decide +kernel
theorem turn_turn : ∀ a ∈ TURNS, isTurnD (tupD a) = true := by decide +kernel
/-- the one that takes a turn back -/
def backL (a : List Int) : List Int := STILLn.map fun i => ((a.idxOf i : Nat) : Int)
def fBack : List En → En → Prop := fun es x => ∀ a, es = [.dat (tupD a)] → x = .dat (tupD (backL a))
theorem back_ok : ∀ a ∈ TURNS, ∀ i ∈ STILLn, a[a.idxOf i]? = some i ∧ ∀ m < a.idxOf i, a[m]? ≠ some i := by decide +kernel
def pw (a : List Int) : Nat → List Int
  | 0 => a
  | n + 1 => thenL (pw a n) a
def ordL (a : List Int) : Nat := if pw a 0 = STILLn then 1 else if pw a 1 = STILLn then 2 else if pw a 2 = STILLn then 3 else 4
theorem ord_le : ∀ a ∈ TURNS, ordL a ≤ 4 ∧ 1 ≤ ordL a := by decide +kernel
theorem ord_ok : ∀ a ∈ TURNS, ∀ k < 4, k < ordL a → (pw a k = STILLn ↔ k + 1 = ordL a) := by decide +kernel
theorem pw_turn : ∀ a ∈ TURNS, ∀ k < 4, pw a k ∈ TURNS := by decide +kernel
def aNil : List En → Prop := fun es => es = []
def fTurns : List En → En → Prop := fun _ x => x = .dat (.list (TURNS.map tupD))
def aBoth : List En → Prop := fun es => ∃ a b i, a ∈ TURNS ∧ b ∈ TURNS ∧ es = [.dat (tupD a), .dat (tupD b), .dat (.int i)]
def fBoth : List En → En → Prop := fun es x => ∀ a b i, es = [.dat (tupD a), .dat (tupD b), .dat (.int i)] → x = .dat (tupD (thenL a b))
/-- the law's own search: step by step, three for each found -/
def bf : Nat → List (List Int)
  | 0 => [STILLn]
  | i + 1 => if thenL ((bf i).getD (i / 3) []) (QUARTS.getD (i % 3) []) ∈ bf i then bf i else bf i ++ [thenL ((bf i).getD (i / 3) []) (QUARTS.getD (i % 3) [])]
theorem bf_len : ∀ k < 25, (k < (bf (3 * k)).length ↔ k < 24) := by decide +kernel
theorem bf_end : (bf 72).length = 24 ∧ ∀ a ∈ bf 72, a ∈ TURNS := by decide +kernel
theorem bf_at : ∀ i < 72, (bf i)[i / 3]? = some ((bf i).getD (i / 3) []) ∧ (bf i).getD (i / 3) [] ∈ TURNS ∧ (bf i).length < 30 := by decide +kernel
theorem quart_ok : ∀ q ∈ QUARTS, q ∈ TURNS := by decide +kernel
theorem turns_bd : ∀ a ∈ TURNS, a.length = 6 ∧ ∀ m ∈ a, 0 ≤ m ∧ m < 6 := by decide +kernel
theorem turns_up : TURNS.Pairwise (fun a b => TS.code 6 a < TS.code 6 b) := by decide +kernel
theorem bf_perm : (bf 72).Perm TURNS := by decide +kernel
def spLaw (K : PySem.W.Frag) : Sp := fun vs H Q _ => ∃ (a : Addr) (ns : List Int), vs = [.ref a] ∧ SqL K H a (ns.map V.int) ∧ TF H ∧ ns.length ≤ 63 ∧ ∀ H', Q (.bl true) H'
theorem then_turn : ∀ a ∈ TURNS, ∀ b ∈ TURNS, thenL a b ∈ TURNS := by decide +kernel
theorem back_turn : ∀ a ∈ TURNS, backL a ∈ TURNS ∧ thenL a (backL a) = STILLn := by decide +kernel
def fTimes : List En → En → Prop := fun es x => ∀ a, es = [.dat (tupD a)] → x = .dat (.int (ordL a))

/-! ### paints -/
def isPaintsD (d : PyData) : Bool := isSixD d && (match d with | .tuple ds => (ds.all fun x => match x with | .int i => decide (0 ≤ i) | _ => false) | _ => false)
def fIsPaints : List En → En → Prop := fun es x => ∀ d, es = [.dat d] → x = .dat (.bool (isPaintsD d))
def PA (ns : List Int) : Prop := ns.length = 6 ∧ ∀ i ∈ ns, 0 ≤ i
def aPaints : List En → Prop := fun es => ∃ ns, PA ns ∧ es = [.dat (tupD ns)]
theorem all_ints (ns : List Int) : ((ns.map PyData.int).map isWholeD).all id = true := by
  rw [List.map_map]
  exact List.all_eq_true.mpr fun x hx => by obtain ⟨y, _, rfl⟩ := List.mem_map.mp hx; rfl
theorem PA.is {ns : List Int} (h : PA ns) : isPaintsD (tupD ns) = true := by
  unfold isPaintsD tupD
  rw [Bool.and_eq_true]
  refine ⟨?_, ?_⟩
  · show (_ && _) = true
    rw [all_ints, List.length_map, h.1]
    rfl
  · show (ns.map PyData.int).all _ = true
    rw [List.all_map]
    exact List.all_eq_true.mpr fun x hx => decide_eq_true (h.2 x hx)
/-- what is at side k comes to the side at place k -/
def ledN (ps t : List Int) : Nat → List Int
  | 0 => [0, 0, 0, 0, 0, 0]
  | k + 1 => (ledN ps t k).set (t.getD k 0).toNat (ps.getD k 0)
def ledL (ps t : List Int) : List Int := ledN ps t 6
theorem ledN_len (ps t : List Int) : ∀ k, (ledN ps t k).length = 6
  | 0 => rfl
  | k + 1 => by rw [ledN, List.length_set, ledN_len ps t k]
def aLook : List En → Prop := fun es => ∃ ps t, ps.length = 6 ∧ t ∈ TURNS ∧ es = [.dat (tupD ps), .dat (tupD t)]
def aTurned : List En → Prop := fun es => ∃ ps t, PA ps ∧ t ∈ TURNS ∧ es = [.dat (tupD ps), .dat (tupD t)]
def fLook : List En → En → Prop := fun es x => ∀ ps t, es = [.dat (tupD ps), .dat (tupD t)] → x = .dat (tupD (ledL ps t))
def mirL : List Int → List Int
  | [a, b, c, d, e, f] => [a, b, c, d, f, e]
  | l => l
def fMirror : List En → En → Prop := fun es x => ∀ ps, es = [.dat (tupD ps)] → x = .dat (tupD (mirL ps))
theorem turn_side : ∀ t ∈ TURNS, ∀ k < 6, 0 ≤ t.getD k 0 ∧ (t.getD k 0).toNat < 6 ∧ t[k]? = some (t.getD k 0) := by decide +kernel
theorem six_of {ns : List Int} (h : ns.length = 6) : ∃ a b c d e f, ns = [a, b, c, d, e, f] := by
  match ns, h with
  | [a, b, c, d, e, f], _ => exact ⟨a, b, c, d, e, f, rfl⟩
theorem led_get {ps : List Int} (h : ps.length = 6) {k : Nat} (hk : k < 6) : ps[k]? = some (ps.getD k 0) := by
  rw [List.getD_eq_getElem?_getD, List.getElem?_eq_getElem (by omega)]
  rfl
theorem ledN_mem {ps t : List Int} {P : Int → Prop} (h0 : P 0) (h : ps.length = 6) (hp : ∀ i ∈ ps, P i) : ∀ k, k ≤ 6 → ∀ i ∈ ledN ps t k, P i
  | 0, _, i, hi => by
    have : i = 0 := by simpa [ledN] using hi
    rw [this]; exact h0
  | k + 1, hk, i, hi => by
    rw [ledN] at hi
    rcases List.mem_or_eq_of_mem_set hi with hi | rfl
    · exact ledN_mem h0 h hp k (by omega) i hi
    · exact hp _ (List.mem_of_getElem? (led_get h (k := k) (by omega)))
theorem PA.led {ps t : List Int} (h : PA ps) : PA (ledL ps t) := ⟨ledN_len ps t 6, ledN_mem (P := fun i => 0 ≤ i) (by decide) h.1 h.2 6 (by decide)⟩
theorem PA.mir {ps : List Int} (h : PA ps) : PA (mirL ps) := by
  obtain ⟨a, b, c, d, e, f, rfl⟩ := six_of h.1
  refine ⟨rfl, fun i hi => h.2 i ?_⟩
  simp only [mirL, List.mem_cons, List.not_mem_nil, or_false] at hi ⊢
  rcases hi with h | h | h | h | h | h <;> simp [h]
theorem erase_perm {α : Type} : ∀ {l : List α} {j : Nat} {d : α}, l[j]? = some d → l.Perm (d :: l.eraseIdx j)
  | a :: l, 0, d, h => by
    simp only [List.getElem?_cons_zero, Option.some.injEq] at h
    subst h
    exact .refl _
  | a :: l, j + 1, d, h => by
    simp only [List.getElem?_cons_succ] at h
    exact ((erase_perm h).cons a).trans (.swap _ _ _)
  | [], _, _, h => by simp at h
def aMixed : Nat → List En → Prop := fun n es => ∃ ds : List PyData, ds.length ≤ 1000 ∧ ds.length ≤ n ∧ (∀ d ∈ ds, SeqAt.shaped (.list [d]) = true) ∧ es = [.dat (.list ds)]
def fMixed : Nat → List En → Nat → En → Prop := fun n es m x => ∀ ds, es = [.dat (.list ds)] → m + ds.length = n ∧ ∃ rs : List PyData, rs.Perm ds ∧ x = .dat (.list rs)
def aCoat : Nat → List En → Prop := fun n es => 16 ≤ n ∧ es = []
def fCoat : Nat → List En → Nat → En → Prop := fun n _ m x => n ≤ m + 16 ∧ ∃ ns, PA ns ∧ x = .dat (tupD ns)
theorem perm_ints : ∀ {rs ds : List PyData}, rs.Perm ds → ∀ {ns : List Int}, ds = ns.map PyData.int → ∃ ms : List Int, ms.Perm ns ∧ rs = ms.map PyData.int := by
  intro rs ds h
  induction h with
  | nil => exact fun {ns} e => ⟨ns, .refl _, e⟩
  | cons x _ ih =>
    intro ns e
    match ns, e with
    | a :: ns, e =>
      simp only [List.map_cons, List.cons.injEq] at e
      obtain ⟨ms, p, q⟩ := ih e.2
      exact ⟨a :: ms, p.cons a, by rw [q, e.1]; rfl⟩
  | swap x y l =>
    intro ns e
    match ns, e with
    | a :: b :: ns, e =>
      simp only [List.map_cons, List.cons.injEq] at e
      exact ⟨b :: a :: ns, .swap _ _ _, by rw [e.1, e.2.1, e.2.2]; rfl⟩
  | trans _ _ ih1 ih2 =>
    intro ns e
    obtain ⟨ms, p, q⟩ := ih2 e
    obtain ⟨ks, p2, q2⟩ := ih1 q
    exact ⟨ks, p2.trans p, q2⟩
theorem lay_all : ∀ {ds : List PyData}, (∀ d ∈ ds, SeqAt.shaped (.list [d]) = true) → PyData.canLayAll0 ds = true ∧ PyData.depthAll ds ≤ 63
  | [], _ => by simp [PyData.canLayAll0, PyData.depthAll]
  | d :: ds, h => by
    obtain ⟨h1, h2⟩ := lay_all (ds := ds) fun x hx => h x (List.mem_cons_of_mem _ hx)
    have q := h d (List.mem_cons_self ..)
    have q1 := SeqAt.canLay_of_shaped q
    have q2 := SeqAt.depth_of_shaped q
    simp [PyData.canLay0, PyData.canLayAll0, PyData.depth, PyData.depthAll] at q1 q2 ⊢
    exact ⟨⟨q1, h1⟩, by omega⟩
theorem shaped_all {ds : List PyData} (h : ∀ d ∈ ds, SeqAt.shaped (.list [d]) = true) : SeqAt.shaped (.list ds) = true := by
  obtain ⟨h1, h2⟩ := lay_all h
  unfold SeqAt.shaped
  rw [Bool.and_eq_true, decide_eq_true_eq]
  simp only [PyData.canLay0, PyData.depth]
  exact ⟨h1, by omega⟩
theorem paired_ints {Pe : PyData → PyData → Prop} {Q : Int → Prop} (hp : ∀ d r, Pe d r → ∃ i, r = .int i ∧ Q i) : ∀ {ds rs : List PyData}, Paired Pe ds rs → ∃ ns : List Int, ns.length = ds.length ∧ rs = ns.map PyData.int ∧ ∀ i ∈ ns, Q i
  | _, _, .nil => ⟨[], rfl, rfl, fun i hi => by cases hi⟩
  | _, _, .cons a t => by
    obtain ⟨ns, h1, h2, h3⟩ := paired_ints hp t
    obtain ⟨i, e, q⟩ := hp _ _ a
    refine ⟨i :: ns, congrArg Nat.succ h1, by rw [e, h2]; rfl, fun j hj => ?_⟩
    rcases List.mem_cons.mp hj with rfl | hj
    · exact q
    · exact h3 j hj

/-! ### refusals -/
def rTurnX : List En → En → Prop := fun es _ => ∀ d, es = [.dat d] → isTurnD d = true
def xTurnX (c : Addr) : List En → Addr → Prop := fun es C => ∀ d, es = [.dat d] → isTurnD d = false ∧ C = c
theorem turn_of {d : PyData} (h : isTurnD d = true) : ∃ t, t ∈ TURNS ∧ d = tupD t := by
  obtain ⟨h1, h2⟩ := Bool.and_eq_true_iff.mp (show (isSixD d && (TURNS.map tupD).any fun z => PyData.eqv z d) = true from h)
  cases d with
  | tuple ds =>
    obtain ⟨ns, rfl⟩ := six_ints (Bool.and_eq_true_iff.mp (show (_ && _) = true from h1)).2
    exact ⟨ns, of_decide_eq_true ((any_tup TURNS ns).symm.trans h2), rfl⟩
  | _ => cases h1
theorem sd_dropP {K : PySem.W.Frag} {f : Fx} {s : Sx} {δ : List En} {te : TE} {u : TS} {p : Po} {P : Sx → En → Prop} (h : ED K f s te δ P) (k : ∀ s' x, P s' x → SD K f s' u δ p) : SD K f s (tSeq (tDrop te) u) δ p :=
  sd_seq (M := fun s' δ' => (∃ x, P s' x) ∧ δ' = δ) (sd_drop h fun s' x q => ⟨⟨x, q⟩, rfl⟩) fun s' δ' ⟨⟨x, q⟩, e⟩ => by
    subst e
    exact k s' x q
def MWORDS : List Str := ["NoBack", "NoBase", "NoChange", "NoCounts", "NoCube", "NoCubes", "NoFit", "NoName", "NoNumber", "NoPaints", "NoPalette", "NoPaper", "NoPlace", "NoRow", "NoSix", "NoStock", "NoText", "NoTurn", "NoWord", "TooMany"]
/-- the classes cs, of which those at the places idx may come -/
def markB (K : PySem.W.Frag) (cs : List Addr) (idx : List Nat) : Bool := decide cs.Nodup && idx.all fun i => match cs[i]? with | some C => askB K C && kitAll K C cs (indB 20 i) | none => false
theorem mark_nd {K : PySem.W.Frag} {cs : List Addr} {idx : List Nat} (h : markB K cs idx = true) : cs.Nodup := of_decide_eq_true (Bool.and_eq_true_iff.mp h).1
theorem mark_at {K : PySem.W.Frag} {cs : List Addr} {idx : List Nat} (h : markB K cs idx = true) {i : Nat} (hi : i ∈ idx) {C : Addr} (e : cs[i]? = some C) : askB K C = true ∧ kitAll K C cs (indB 20 i) = true := by
  have q := List.all_eq_true.mp (Bool.and_eq_true_iff.mp h).2 i hi
  rw [e] at q
  exact Bool.and_eq_true_iff.mp q
def aMarks (cs : List Addr) (idx : List Nat) : List En → Prop := fun es => ∃ i C, i ∈ idx ∧ cs[i]? = some C ∧ es = [excE C]
def fMarks (cs : List Addr) (idx : List Nat) : List En → En → Prop := fun es x => ∀ i C, i ∈ idx → cs[i]? = some C → es = [excE C] → x = .dat (.list [.str (MWORDS.getD i "")])
theorem nd_ix {cs : List Addr} (h : cs.Nodup) {i j : Nat} {C : Addr} (hi : cs[i]? = some C) (hj : cs[j]? = some C) : i = j := by
  obtain ⟨h1, e1⟩ := List.getElem?_eq_some_iff.mp hi
  obtain ⟨h2, e2⟩ := List.getElem?_eq_some_iff.mp hj
  exact (List.getElem_inj h).mp (e1.trans e2.symm)
theorem marks_found : ∀ i < 20, (((MWORDS.map PyData.str).zip ((indB 20 i).map PyData.bool)).filter (fun x => match x.2 with | .bool b => b | _ => false)).map (·.1) = [PyData.str (MWORDS.getD i "")] := by
  intro i hi
  have : ∀ i < 20, ((MWORDS.zip (indB 20 i)).filter (·.2)).map (·.1) = [MWORDS.getD i ""] := by decide +kernel
  have q := this i hi
  rw [List.zip_map, List.filter_map, List.map_map]
  have e1 : ((fun x : PyData × PyData => match x.2 with | .bool b => b | _ => false) ∘ Prod.map PyData.str PyData.bool) = (·.2) := by funext x; rfl
  have e2 : ((·.1) ∘ Prod.map PyData.str PyData.bool : Str × Bool → PyData) = PyData.str ∘ (·.1) := by funext x; rfl
  rw [e1, e2, ← List.map_map, q]
  rfl

def rPaintsX : List En → En → Prop := fun es _ => ∀ d, es = [.dat d] → isPaintsD d = true
def xPaintsX (c : Addr) : List En → Addr → Prop := fun es C => ∀ d, es = [.dat d] → isPaintsD d = false ∧ C = c
theorem paints_of {d : PyData} (h : isPaintsD d = true) : ∃ ns, PA ns ∧ d = tupD ns := by
  unfold isPaintsD at h
  obtain ⟨h1, h2⟩ := Bool.and_eq_true_iff.mp h
  cases d with
  | tuple ds =>
    obtain ⟨h3, h4⟩ := Bool.and_eq_true_iff.mp (show (_ && _) = true from h1)
    obtain ⟨ns, rfl⟩ := six_ints h4
    have h5 : (ns.map PyData.int).all (fun x => match x with | .int i => decide (0 ≤ i) | _ => false) = true := h2
    rw [List.all_map] at h5
    refine ⟨ns, ⟨?_, fun i hi => of_decide_eq_true (List.all_eq_true.mp h5 i hi)⟩, rfl⟩
    rw [List.length_map] at h3
    simpa using h3
  | _ => cases h1
def aAny2 : List En → Prop := fun es => ∃ d1 d2, es = [.dat d1, .dat d2]
def rTurnedX : List En → En → Prop := fun es _ => ∀ d1 d2, es = [.dat d1, .dat d2] → isPaintsD d1 = true ∧ isTurnD d2 = true
def xTurnedX (cP cT : Addr) : List En → Addr → Prop := fun es C => ∀ d1 d2, es = [.dat d1, .dat d2] → (isPaintsD d1 = false ∧ C = cP) ∨ (isPaintsD d1 = true ∧ isTurnD d2 = false ∧ C = cT)

def aBent : Nat → List En → Prop := fun n es => 12 ≤ n ∧ ∃ t, t ∈ TURNS ∧ es = [.dat (tupD t)]
def fBent : Nat → List En → Nat → En → Prop := fun n _ m x => n ≤ m + 12 ∧ ∃ d, okN 3 d = true ∧ x = .dat d
theorem turn_small : ∀ t ∈ TURNS, ∀ i ∈ t, 0 ≤ i ∧ i < 6 := by decide +kernel
theorem okN_turn {k : Nat} {t : List Int} (h : t ∈ TURNS) : okN (k + 2) (tupD t) = true := by
  refine okN_tup (by rw [List.length_map, turn_len t h]; decide) fun d hd => ?_
  obtain ⟨i, hi, rfl⟩ := List.mem_map.mp hd
  have := turn_small t h i hi
  exact okN_small this.1 (by omega)
theorem okN_ints {k : Nat} {ns : List Int} (hl : ns.length ≤ 20) (h : ∀ i ∈ ns, 0 ≤ i ∧ i < 6) : okN (k + 2) (.tuple (ns.map .int)) = true := by
  refine okN_tup (by rw [List.length_map]; exact hl) fun d hd => ?_
  obtain ⟨i, hi, rfl⟩ := List.mem_map.mp hd
  exact okN_small (h i hi).1 (by have := (h i hi).2; omega)
theorem cut_ok {t : List Int} (h : t ∈ TURNS) (lo hi : Option Int) : (∀ d ∈ cutD (t.map PyData.int) lo hi, okN 1 d = true) ∧ (cutD (t.map PyData.int) lo hi).length ≤ 6 := by
  obtain ⟨h1, h2⟩ := cutD_sub (ds := t.map PyData.int) (lo := lo) (hi := hi)
  rw [List.length_map, turn_len t h] at h2
  refine ⟨fun d hd => ?_, h2⟩
  obtain ⟨i, hi', rfl⟩ := List.mem_map.mp (h1 d hd)
  have := turn_small t h i hi'
  exact okN_small this.1 (by omega)
theorem at_turn {t : List Int} (h : t ∈ TURNS) {r : Int} (r0 : 0 ≤ r) (r1 : r < 6) : ∃ i, i ∈ t ∧ atI (t.map PyData.int) r = some (.int i) := by
  obtain ⟨d, hd, e⟩ := at_list (L := t.map PyData.int) r0 (by rw [List.length_map, turn_len t h]; exact r1)
  obtain ⟨i, hi, rfl⟩ := List.mem_map.mp hd
  exact ⟨i, hi, e⟩

def PAB (ns : List Int) : Prop := ns.length = 6 ∧ ∀ i ∈ ns, 0 ≤ i ∧ i < 2 ^ 200
theorem PAB.pa {ns : List Int} (h : PAB ns) : PA ns := ⟨h.1, fun i hi => (h.2 i hi).1⟩
def fCoatB : Nat → List En → Nat → En → Prop := fun n _ m x => n ≤ m + 16 ∧ ∃ ns, PAB ns ∧ x = .dat (tupD ns)
def aBentC : Nat → List En → Prop := fun n es => 3 ≤ n ∧ ∃ ns, PAB ns ∧ es = [.dat (tupD ns)]
def fBentC : Nat → List En → Nat → En → Prop := fun n _ m x => n ≤ m + 3 ∧ ∃ d, okN 3 d = true ∧ x = .dat d
theorem okN_b {k : Nat} {i : Int} (h : 0 ≤ i ∧ i < 2 ^ 200) : okN (k + 1) (.int i) = true := by
  refine okN_int (Nat.lt_of_lt_of_le (show i.natAbs < 2 ^ 200 by omega) (Nat.pow_le_pow_right (by decide) (by decide)))
theorem okN_coat {k : Nat} {ns : List Int} (h : PAB ns) : okN (k + 2) (tupD ns) = true := by
  refine okN_tup (by rw [List.length_map, h.1]; decide) fun d hd => ?_
  obtain ⟨i, hi, rfl⟩ := List.mem_map.mp hd
  exact okN_b (h.2 i hi)
theorem cut_okC {t : List Int} (h : PAB t) (lo hi : Option Int) : (∀ d ∈ cutD (t.map PyData.int) lo hi, okN 1 d = true) ∧ (cutD (t.map PyData.int) lo hi).length ≤ 6 := by
  obtain ⟨h1, h2⟩ := cutD_sub (ds := t.map PyData.int) (lo := lo) (hi := hi)
  rw [List.length_map, h.1] at h2
  refine ⟨fun d hd => ?_, h2⟩
  obtain ⟨i, hi', rfl⟩ := List.mem_map.mp (h1 d hd)
  exact okN_b (h.2 i hi')
theorem at_coat {t : List Int} (h : PAB t) {r : Int} (r0 : 0 ≤ r) (r1 : r < 6) : ∃ i, i ∈ t ∧ atI (t.map PyData.int) r = some (.int i) := by
  obtain ⟨d, hd, e⟩ := at_list (L := t.map PyData.int) r0 (by rw [List.length_map, h.1]; exact r1)
  obtain ⟨i, hi, rfl⟩ := List.mem_map.mp hd
  exact ⟨i, hi, e⟩

def dueD (d1 d2 : PyData) : List PyData := if isPaintsD d1 then (if isTurnD d2 then [] else [.str "NoTurn"]) else [.str "NoPaints"]
theorem due_sh (d1 d2 : PyData) : SeqAt.shaped (.list (dueD d1 d2)) = true ∧ PyData.eqv (.list (dueD d1 d2)) (.list (dueD d1 d2)) = true := by
  unfold dueD
  cases isPaintsD d1 <;> cases isTurnD d2 <;> exact ⟨by decide +kernel, by decide +kernel⟩
def aRef : List En → Prop := fun es => ∃ d1 d2 i, es = [.dat d1, .dat d2, .dat (.int i)]
def fRef : List En → En → Prop := fun es x => ∀ d1 d2 i, es = [.dat d1, .dat d2, .dat (.int i)] → x = .dat (.list (dueD d1 d2))
def kg_turned_1_turn {α : Type} : List α → List α → List α
  | [a0], [b0] => [a0, b0]
  | _, _ => []
theorem kr_turned_1_turn {vs zs : List V} {us ws : List Value} (h1 : Vals vs us) (h2 : Vals zs ws) : Vals (kg_turned_1_turn vs zs) (kg_turned_1_turn us ws) := by
  match vs, us, h1, zs, ws, h2 with
  | _, _, (.cons p0 .nil), _, _, (.cons q0 .nil) => exact (.cons p0 (.cons q0 .nil))
  | _, _, .nil, _, _, _ => exact .nil
  | _, _, (.cons _ (.cons _ _)), _, _, _ => exact .nil
  | _, _, (.cons r0 .nil), _, _, .nil => exact .nil
  | _, _, (.cons r0 .nil), _, _, (.cons _ (.cons _ _)) => exact .nil
def kg_turned_0_turn_paints {α : Type} : List α → List α → List α
  | [], [b0, b1] => [b1, b0]
  | _, _ => []
theorem kr_turned_0_turn_paints {vs zs : List V} {us ws : List Value} (h1 : Vals vs us) (h2 : Vals zs ws) : Vals (kg_turned_0_turn_paints vs zs) (kg_turned_0_turn_paints us ws) := by
  match vs, us, h1, zs, ws, h2 with
  | _, _, .nil, _, _, (.cons q0 (.cons q1 .nil)) => exact (.cons q1 (.cons q0 .nil))
  | _ :: _, _ :: _, .cons _ _, _, _, _ => exact .nil
  | _, _, .nil, _, _, .nil => exact .nil
  | _, _, .nil, _, _, (.cons t0 .nil) => exact .nil
  | _, _, .nil, _, _, (.cons _ (.cons _ (.cons _ _))) => exact .nil
def kg_is_paints_0_thing {α : Type} : List α → List α → List α
  | [], [b0] => [b0]
  | _, _ => []
theorem kr_is_paints_0_thing {vs zs : List V} {us ws : List Value} (h1 : Vals vs us) (h2 : Vals zs ws) : Vals (kg_is_paints_0_thing vs zs) (kg_is_paints_0_thing us ws) := by
  match vs, us, h1, zs, ws, h2 with
  | _, _, .nil, _, _, (.cons q0 .nil) => exact (.cons q0 .nil)
  | _ :: _, _ :: _, .cons _ _, _, _, _ => exact .nil
  | _, _, .nil, _, _, .nil => exact .nil
  | _, _, .nil, _, _, (.cons _ (.cons _ _)) => exact .nil
theorem ok_is_whole {f : Addr} {fd : FuncData} (F : Fun K "is_whole" "is_whole" s_is_whole f fd) (m_bool : mg "bool" = none) (m_int : mg "int" = none) (m_isinstance : mg "isinstance" = none) : FnOk P w K mg base CX0 1 f fd ["thing"] (spP K aAny fIsWhole) := by
  refine F.ok sc_is_whole (spP_len (n := 1) (fun es h => by obtain ⟨d, rfl⟩ := h; rfl)) (fun cdv A outer s H vs Q E hr h => ?_)
  have hu := hr.units
  have hu5 := hu5_of hr
  refine ⟨_, (pss_one (ps_ret (pe_and (pe_callB call_isi (by rfl) m_isinstance (by decide +kernel) (pa_cons (pv 0) (pa_cons (pe_bltn (v := .ty "int") (u := .type "int") (by rfl) m_int (by decide +kernel) rfl) pa_nil))) (pe_one (pe_not (pe_callB call_isi (by rfl) m_isinstance (by decide +kernel) (pa_cons (pv 0) (pa_cons (pe_bltn (v := .ty "bool") (u := .type "bool") (by rfl) m_bool (by decide +kernel) rfl) pa_nil)))))))), run_pure h fun f s es ha => ?_⟩
  obtain ⟨d, rfl⟩ := ha
  refine sd_retI (x := .dat (.bool (isWholeD d))) ?_ (fun _ e => by cases e; rfl)
  refine ed_is (ed_and (ed_isInt (ed_var rfl)) fun _ => ed_notV (ed_isBool (ed_var rfl))) ?_
  cases d <;> rfl
theorem ok_are_six_whole {f : Addr} {fd : FuncData} (F : Fun K "are_six_whole" "are_six_whole" s_are_six_whole f fd) {f_is_whole : Addr} {fd_is_whole : FuncData} (G_is_whole : FnOk P w K mg base CX0 1 f_is_whole fd_is_whole ["thing"] (spP K aAny fIsWhole)) (m_is_whole : mg "is_whole" = some (.ref f_is_whole)) (k_is_whole : PySem.W.keepIn K (.ref f_is_whole) = true) (b_is_whole : Binds K fd_is_whole ["thing"] []) (m_all : mg "all" = none) (m_isinstance : mg "isinstance" = none) (m_len : mg "len" = none) (m_tuple : mg "tuple" = none) : FnOk P w K mg base CX0 2 f fd ["thing"] (spP K aAny fSix) := by
  refine F.ok sc_are_six_whole (spP_len (n := 1) (fun es h => by obtain ⟨d, rfl⟩ := h; rfl)) (fun cdv A outer s H vs Q E hr h => ?_)
  have hu := hr.units
  have hu5 := hu5_of hr
  refine ⟨_, (pss_cons (ps_if (PW.pt (pw_or (pt_not (pt_val (pe_callB call_isi (by rfl) m_isinstance (by decide +kernel) (pa_cons (pv 0) (pa_cons (pe_bltn (v := .ty "tuple") (u := .type "tuple") (by rfl) m_tuple (by decide +kernel) rfl) pa_nil))))) (pw_or1 (pt_cmpR (op_neD hu) (pe_callB call_len_seq (by rfl) m_len (by decide +kernel) (pa_cons (pv 0) pa_nil)) pe_int (nomark _))))) (pss_one (ps_ret pe_bl)) pss_nil)
        (pss_one (ps_ret (pe_callB (cr_all rfl) (by rfl) m_all (by decide +kernel) (pa_cons (pe_lc (te := (tCall (spP K aAny fIsWhole) [] E0 (tCons (tVar 1) tNil))) (own := [("part", 1)]) (g := gName 1) rfl sc_are_six_whole.nd (pi_tup (pv 0)) (blkOk_by (own := [("part", 1)]) (N := N_are_six_whole) (sc := defScope s_are_six_whole) (by decide +kernel)) (fun _ _ _ _ _ => pg_name (i := 1) sc_are_six_whole.nd rfl (Or.inl rfl)) (fun _ _ _ _ _ => pts_nil) (fun _ _ _ _ _ => (pe_call G_is_whole (hr.mono (by decide)) (by rfl) m_is_whole k_is_whole b_is_whole .nil pass0 (pa_cons (pv 1) pa_nil)))) pa_nil))))), run_pure h fun f s es ha => ?_⟩
  obtain ⟨d, rfl⟩ := ha
  refine sd_when (PT := fun s' b => s' = s ∧ b = !(match d with | .tuple ds => ds.length == 6 | _ => false)) ?_ (fun s1 q => ?_) (fun s1 q => ?_)
  · cases d with
    | tuple ds => exact et_imp (et_or (et_not (et_B (ed_isTup (ed_var rfl)))) fun _ => et_test (ed_op (ed_cb (ea_cons (ed_var rfl) ea_nil) (cd_len (.inr rfl))) ed_c (od_neD rfl rfl))) (fun s b h => by
        obtain ⟨rfl, rfl⟩ := h
        refine ⟨rfl, ?_⟩
        show (!true || !((ds.length : Int) == 6)) = !(ds.length == 6)
        rw [show ((ds.length : Int) == 6) = (ds.length == 6) from by rw [Bool.eq_iff_iff, beq_iff_eq, beq_iff_eq]; omega]
        rfl)
    | _ => exact et_imp (et_or (b := true) (et_not (et_B (ed_isTup (ed_var rfl)))) fun z => by cases z) (fun s b h => by obtain ⟨rfl, rfl⟩ := h; exact ⟨rfl, rfl⟩)
  · obtain ⟨rfl, q⟩ := q
    refine sd_retI ed_c (fun d' e => ?_)
    cases e
    cases d with
    | tuple ds =>
      have h6 : (ds.length == 6) = false := by simpa using q
      show En.dat (.bool false) = .dat (.bool (ds.length == 6 && _))
      rw [h6]
      rfl
    | _ => rfl
  · obtain ⟨rfl, q⟩ := q
    cases d with
    | tuple ds =>
      have h6 : (ds.length == 6) = true := by simpa using q
      have h6' : ds.length = 6 := by simpa using h6
      refine sd_retI (x := .dat (.bool (isSixD (.tuple ds)))) ?_ (fun _ e => by cases e; rfl)
      refine ed_is (ed_all (g := isWholeD) (ds := ds) (ed_lcT1 (fun d => .bool (isWholeD d)) (ed_var rfl) (by omega) fun d _ s' => ed_callE (ea_cons (ed_var rfl) ea_nil) ⟨d, rfl⟩ fun y r => r d rfl)) ?_
      show En.dat (.bool _) = .dat (.bool (ds.length == 6 && _))
      rw [h6, Bool.true_and]
    | _ => cases q
theorem ok_is_turn {f : Addr} {fd : FuncData} (F : Fun K "is_turn" "is_turn" s_is_turn f fd) {f_are_six_whole : Addr} {fd_are_six_whole : FuncData} (G_are_six_whole : FnOk P w K mg base CX0 2 f_are_six_whole fd_are_six_whole ["thing"] (spP K aAny fSix)) (m_are_six_whole : mg "are_six_whole" = some (.ref f_are_six_whole)) (k_are_six_whole : PySem.W.keepIn K (.ref f_are_six_whole) = true) (b_are_six_whole : Binds K fd_are_six_whole ["thing"] []) {dW : Addr} (mc_WORDS : mg "WORDS" = some (.ref dW)) (T_WORDS : Tab K dW WTAB) : FnOk P w K mg base CX0 3 f fd ["thing"] (spP K aAny fIsTurn) := by
  refine F.ok sc_is_turn (spP_len (n := 1) (fun es h => by obtain ⟨d, rfl⟩ := h; rfl)) (fun cdv A outer s H vs Q E hr h => ?_)
  have hu := hr.units
  have hu5 := hu5_of hr
  refine ⟨_, (pss_one (ps_ret (pe_and (pe_call G_are_six_whole (hr.mono (by decide)) (by rfl) m_are_six_whole k_are_six_whole b_are_six_whole .nil pass0 (pa_cons (pv 0) pa_nil)) (pe_one (pe_cmpR (op_inW hu T_WORDS) (pv 0) (pe_glob (v := .ref dW) (by rfl) mc_WORDS rfl) (by rfl)))))), run_pure h fun f s es ha => ?_⟩
  obtain ⟨d, rfl⟩ := ha
  refine sd_retI (x := .dat (.bool (isTurnD d))) ?_ (fun _ e => by cases e; rfl)
  refine ed_and (ed_callE (ea_cons (ed_var rfl) ea_nil) ⟨d, rfl⟩ fun y r => r d rfl) fun h6 => ?_
  cases d with
  | tuple ds =>
    obtain ⟨ns, rfl⟩ := six_ints (Bool.and_eq_true_iff.mp (show (_ && _) = true from h6)).2
    refine ed_is (ed_op (ed_var rfl) ed_c od_inW) ?_
    rw [wtab_find]
    show En.dat (.bool _) = .dat (.bool ((TURNS.map tupD).any fun z => PyData.eqv z (tupD ns)))
    rw [any_tup]
  | _ => cases h6
theorem ok_check_turn {f : Addr} {fd : FuncData} (F : Fun K "check_turn" "check_turn" s_check_turn f fd) {f_is_turn : Addr} {fd_is_turn : FuncData} (G_is_turn : FnOk P w K mg base CX0 3 f_is_turn fd_is_turn ["thing"] (spP K aAny fIsTurn)) (m_is_turn : mg "is_turn" = some (.ref f_is_turn)) (k_is_turn : PySem.W.keepIn K (.ref f_is_turn) = true) (b_is_turn : Binds K fd_is_turn ["thing"] []) (R_NoTurn : Rai K mg "NoTurn" c_NoTurn) : FnOk P w K mg base (L2.CX P w) 4 f fd ["turn"] (spX K aAny rTurnX (xTurnX c_NoTurn)) := by
  refine F.okX sc_check_turn (spX_len (n := 1) (fun es h => by obtain ⟨d, rfl⟩ := h; rfl)) (fun cdv A outer s H vs Q E hr h => ?_)
  have hu := hr.units
  have hu5 := hu5_of hr
  refine ⟨_, (pss_one (ps_if (pt_not (pt_val (pe_call G_is_turn (hr.mono (by decide)) (by rfl) m_is_turn k_is_turn b_is_turn .nil pass0 (pa_cons (pv 0) pa_nil)))) (pss_one (ps_raiseT rfl (takes_of rfl rfl rfl rfl) R_NoTurn (by rfl))) pss_nil)), run_pureX h fun f s es ha hx => ?_⟩
  obtain ⟨d, rfl⟩ := ha
  refine sd_if (et_not (et_B (ed_callE (ea_cons (ed_var rfl) ea_nil) ⟨d, rfl⟩ fun y r => r d rfl))) (fun s1 q => ?_) (fun s1 q => ?_)
  · obtain ⟨rfl, q⟩ := q
    exact sd_raise hx fun d' e => by cases e; exact ⟨by simpa using q.symm, rfl⟩
  · obtain ⟨rfl, q⟩ := q
    exact sd_next fun d' e => by cases e; simpa using q.symm
theorem ok_is_paints {f : Addr} {fd : FuncData} (F : Fun K "is_paints" "is_paints" s_is_paints f fd) {f_are_six_whole : Addr} {fd_are_six_whole : FuncData} (G_are_six_whole : FnOk P w K mg base CX0 2 f_are_six_whole fd_are_six_whole ["thing"] (spP K aAny fSix)) (m_are_six_whole : mg "are_six_whole" = some (.ref f_are_six_whole)) (k_are_six_whole : PySem.W.keepIn K (.ref f_are_six_whole) = true) (b_are_six_whole : Binds K fd_are_six_whole ["thing"] []) (m_min : mg "min" = none) : FnOk P w K mg base CX0 3 f fd ["thing"] (spP K aAny fIsPaints) := by
  refine F.ok sc_is_paints (spP_len (n := 1) (fun es h => by obtain ⟨d, rfl⟩ := h; rfl)) (fun cdv A outer s H vs Q E hr h => ?_)
  have hu := hr.units
  have hu5 := hu5_of hr
  refine ⟨_, (pss_one (ps_ret (pe_and (pe_call G_are_six_whole (hr.mono (by decide)) (by rfl) m_are_six_whole k_are_six_whole b_are_six_whole .nil pass0 (pa_cons (pv 0) pa_nil)) (pe_one (pe_cmpR op_ge (pe_callB (cr_minT rfl) (by rfl) m_min (by decide +kernel) (pa_cons (pv 0) pa_nil)) pe_int (nomark _)))))), run_pure h fun f s es ha => ?_⟩
  obtain ⟨d, rfl⟩ := ha
  refine sd_retI (x := .dat (.bool (isPaintsD d))) ?_ (fun _ e => by cases e; rfl)
  refine ed_and (ed_callE (ea_cons (ed_var rfl) ea_nil) ⟨d, rfl⟩ fun y r => r d rfl) fun h6 => ?_
  cases d with
  | tuple ds =>
    have h6' := Bool.and_eq_true_iff.mp (show (_ && _) = true from h6)
    obtain ⟨ns, rfl⟩ := six_ints h6'.2
    have hl : ns.length = 6 := by
      have := h6'.1
      rw [List.length_map] at this
      simpa using this
    refine ed_opN (P2 := fun s1 _ => Is s1 (.dat (.int 0))) (ed_cb (ea_cons (ed_var rfl) ea_nil) (cd_minT (by omega))) (fun s1 x _ => ed_c) ?_
    rintro s1 x s2 y ⟨rfl, m, hm, hmin, rfl⟩ ⟨rfl, rfl⟩
    intro G H v u Q jj a b k
    refine od_I0 G H v u Q jj a b fun w' z s' G2 H2 e1 j1 o1 p1 => k w' z s' G2 H2 e1 j1 o1 ?_
    obtain ⟨rfl, rfl⟩ := p1
    refine ⟨rfl, ?_⟩
    show En.dat (.bool (decide (0 ≤ m))) = .dat (.bool ((ns.map PyData.int).all _))
    rw [List.all_map]
    congr 2
    rw [Bool.eq_iff_iff, decide_eq_true_eq, List.all_eq_true]
    exact ⟨fun h x hx => decide_eq_true (Int.le_trans h (hmin x hx)), fun h => of_decide_eq_true (h m hm)⟩
  | _ => cases h6
theorem ok_check_paints {f : Addr} {fd : FuncData} (F : Fun K "check_paints" "check_paints" s_check_paints f fd) {f_is_paints : Addr} {fd_is_paints : FuncData} (G_is_paints : FnOk P w K mg base CX0 3 f_is_paints fd_is_paints ["thing"] (spP K aAny fIsPaints)) (m_is_paints : mg "is_paints" = some (.ref f_is_paints)) (k_is_paints : PySem.W.keepIn K (.ref f_is_paints) = true) (b_is_paints : Binds K fd_is_paints ["thing"] []) (R_NoPaints : Rai K mg "NoPaints" c_NoPaints) : FnOk P w K mg base (L2.CX P w) 4 f fd ["paints"] (spX K aAny rPaintsX (xPaintsX c_NoPaints)) := by
  refine F.okX sc_check_paints (spX_len (n := 1) (fun es h => by obtain ⟨d, rfl⟩ := h; rfl)) (fun cdv A outer s H vs Q E hr h => ?_)
  have hu := hr.units
  have hu5 := hu5_of hr
  refine ⟨_, (pss_one (ps_if (pt_not (pt_val (pe_call G_is_paints (hr.mono (by decide)) (by rfl) m_is_paints k_is_paints b_is_paints .nil pass0 (pa_cons (pv 0) pa_nil)))) (pss_one (ps_raiseT rfl (takes_of rfl rfl rfl rfl) R_NoPaints (by rfl))) pss_nil)), run_pureX h fun f s es ha hx => ?_⟩
  obtain ⟨d, rfl⟩ := ha
  refine sd_if (et_not (et_B (ed_callE (ea_cons (ed_var rfl) ea_nil) ⟨d, rfl⟩ fun y r => r d rfl))) (fun s1 q => ?_) (fun s1 q => ?_)
  · obtain ⟨rfl, q⟩ := q
    exact sd_raise hx fun d' e => by cases e; exact ⟨by simpa using q.symm, rfl⟩
  · obtain ⟨rfl, q⟩ := q
    exact sd_next fun d' e => by cases e; simpa using q.symm
theorem ok_look {f : Addr} {fd : FuncData} (F : Fun K "look" "look" s_look f fd) (m_tuple : mg "tuple" = none) (m_zip : mg "zip" = none) : FnOk P w K mg base CX0 1 f fd ["paints", "turn"] (spP K aLook fLook) := by
  refine F.ok sc_look (spP_len (n := 2) (fun es h => by obtain ⟨ps, t, hp, ht, rfl⟩ := h; rfl)) (fun cdv A outer s H vs Q E hr h => ?_)
  have hu := hr.units
  have hu5 := hu5_of hr
  refine ⟨_, (pss_cons (ps_set (i := 2) sc_look.nd rfl (Or.inl rfl) (pe_op op_rep (pe_lst (pa_cons pe_int pa_nil)) pe_int))
        (pss_cons (ps_for PassesOwn.never rfl (RZ.pi_zipA (by rfl) m_zip (pa_cons (pv 0) (pa_cons (pv 1) pa_nil))) (pg_tup rfl (pgs_cons (pg_name (i := 3) sc_look.nd rfl (Or.inl rfl)) (pgs_cons (pg_name (i := 4) sc_look.nd rfl (Or.inl rfl)) pgs_nil))) (pss_one (ps_asg (pv 3) (pg_sub (pv 2) (pv 4) set_list))))
        (pss_one (ps_ret (pe_callTy call_tupleF (by rfl) m_tuple (by decide +kernel) (pa_cons (pv 2) pa_nil)))))), run_pure h fun f s es ha => ?_⟩
  obtain ⟨ps, t, hp, ht, rfl⟩ := ha
  refine sd_repNew (k := 6) (es := [.dat (.int 0)]) (ea_cons ed_c ea_nil) (by decide) (by decide) (by decide) fun D => ?_
  refine sd_seq (M := fun s' δ' => s' = ⟨s.n, (D, ((ledL ps t).map PyData.int).map .dat) :: s.own⟩ ∧ ∃ x y, δ' = [.dat (tupD ps), .dat (tupD t), .val (.ref D), x, y]) ?_ fun s' δ' h => ?_
  · refine sd_zipT (i1 := 3) (i2 := 4) (ds := ps.map .int) (ds2 := t.map .int) (ea_cons (ed_var rfl) (ea_cons (ed_var rfl) ea_nil)) (by rw [List.length_map, List.length_map, hp, turn_len t ht]) (fun k s' δ' => s' = ⟨s.n, (D, ((ledN ps t k).map PyData.int).map .dat) :: s.own⟩ ∧ ∃ x y, δ' = [.dat (tupD ps), .dat (tupD t), .val (.ref D), x, y]) ⟨rfl, _, _, rfl⟩ ?_ (fun s' δ' h => by rw [List.length_map, hp] at h; exact h)
    rintro k d d2 s' δ' hd hd2 ⟨rfl, x, y, rfl⟩
    have hk : k < 6 := by
      have := (List.getElem?_eq_some_iff.mp hd).1
      rw [List.length_map, hp] at this
      exact this
    obtain ⟨s0, s1, s2⟩ := turn_side t ht k hk
    rw [List.getElem?_map, led_get hp hk] at hd
    cases hd
    rw [List.getElem?_map, s2] at hd2
    cases hd2
    refine sd_setOwn (j := (t.getD k 0).toNat) rfl (ed_var rfl) (ed_is (ed_var rfl) ?_) (by rw [List.length_map, List.length_map, ledN_len]; exact s1) ⟨?_, _, _, rfl⟩
    · show En.dat (.int (t.getD k 0)) = _
      rw [Int.toNat_of_nonneg s0]
    · rw [ledN, List.map_set, List.map_set]
  · obtain ⟨rfl, x, y, rfl⟩ := h
    refine sd_retI (x := .dat (tupD (ledL ps t))) (ed_cb (ea_cons (ed_var rfl) ea_nil) cd_tupleOwn) ?_
    intro ps' t' e
    injection e with e1 e2
    injection e2 with e2 _
    rw [dat_inj e1, dat_inj e2]
theorem ok_turned {f : Addr} {fd : FuncData} (F : Fun K "turned" "turned" s_turned f fd) {f_check_turn : Addr} {fd_check_turn : FuncData} (G_check_turn : FnOk P w K mg base (L2.CX P w) 4 f_check_turn fd_check_turn ["turn"] (spX K aAny rTurnX (xTurnX c_NoTurn))) (m_check_turn : mg "check_turn" = some (.ref f_check_turn)) (k_check_turn : PySem.W.keepIn K (.ref f_check_turn) = true) (b_check_turn : Binds K fd_check_turn ["turn"] []) {f_check_paints : Addr} {fd_check_paints : FuncData} (G_check_paints : FnOk P w K mg base (L2.CX P w) 4 f_check_paints fd_check_paints ["paints"] (spX K aAny rPaintsX (xPaintsX c_NoPaints))) (m_check_paints : mg "check_paints" = some (.ref f_check_paints)) (k_check_paints : PySem.W.keepIn K (.ref f_check_paints) = true) (b_check_paints : Binds K fd_check_paints ["paints"] []) {f_look : Addr} {fd_look : FuncData} (G_look : FnOk P w K mg base CX0 1 f_look fd_look ["paints", "turn"] (spP K aLook fLook)) (m_look : mg "look" = some (.ref f_look)) (k_look : PySem.W.keepIn K (.ref f_look) = true) (b_look : Binds K fd_look ["paints", "turn"] []) : FnOk P w K mg base (L2.CX P w) 5 f fd ["paints", "turn"] (spX K aAny2 rTurnedX (xTurnedX c_NoPaints c_NoTurn)) := by
  refine F.okX sc_turned (spX_len (n := 2) (fun es h => by obtain ⟨d1, d2, rfl⟩ := h; rfl)) (fun cdv A outer s H vs Q E hr h => ?_)
  have hu := hr.units
  have hu5 := hu5_of hr
  refine ⟨_, (pss_cons (ps_expr (pe_callS G_check_paints (hr.mono (by decide)) (by rfl) m_check_paints k_check_paints b_check_paints (fun σ => passAt (takes_of rfl rfl rfl rfl) σ) (pa_cons (pv 0) pa_nil)))
        (pss_cons (ps_expr (pe_callS G_check_turn (hr.mono (by decide)) (by rfl) m_check_turn k_check_turn b_check_turn (fun σ => passAt (takes_of rfl rfl rfl rfl) σ) (pa_cons (pv 1) pa_nil)))
        (pss_one (ps_ret (pe_call G_look (hr.mono (by decide)) (by rfl) m_look k_look b_look .nil pass0 (pa_cons (pv 0) (pa_cons (pv 1) pa_nil))))))), run_pureX h fun f s es ha hx => ?_⟩
  obtain ⟨d1, d2, rfl⟩ := ha
  refine sd_dropP (P := fun s' _ => s' = s ∧ isPaintsD d1 = true) (ed_callX hx (ea_cons (ed_var rfl) ea_nil) ⟨d1, rfl⟩ (fun x r => ⟨rfl, r d1 rfl⟩) fun C r => ?_) ?_
  · intro a b e
    cases e
    exact .inl (r d1 rfl)
  rintro s' x ⟨rfl, h1⟩
  refine sd_dropP (P := fun s2 _ => s2 = s' ∧ isTurnD d2 = true) (ed_callX hx (ea_cons (ed_var rfl) ea_nil) ⟨d2, rfl⟩ (fun x r => ⟨rfl, r d2 rfl⟩) fun C r => ?_) ?_
  · intro a b e
    cases e
    exact .inr ⟨h1, r d2 rfl⟩
  rintro s2 x2 ⟨rfl, h2⟩
  obtain ⟨ns, hp, rfl⟩ := paints_of h1
  obtain ⟨t, ht, rfl⟩ := turn_of h2
  exact sd_ret (P := fun _ _ => True) (ed_call (ea_cons (ed_var rfl) (ea_cons (ed_var rfl) ea_nil)) ⟨ns, t, hp.1, ht, rfl⟩ fun y r => trivial) fun s' x r => fun a b e => by
    cases e
    exact ⟨h1, h2⟩
theorem ok__law_marks {f : Addr} {fd : FuncData} (F : Fun K "_law_marks" "_law_marks" s__law_marks f fd) (m_ValueError : mg "ValueError" = none) (m_int : mg "int" = none) (m_isinstance : mg "isinstance" = none) (m_zip : mg "zip" = none) (mc_NoBack : mg "NoBack" = some (.ref c_NoBack)) (mc_NoBase : mg "NoBase" = some (.ref c_NoBase)) (mc_NoChange : mg "NoChange" = some (.ref c_NoChange)) (mc_NoCounts : mg "NoCounts" = some (.ref c_NoCounts)) (mc_NoCube : mg "NoCube" = some (.ref c_NoCube)) (mc_NoCubes : mg "NoCubes" = some (.ref c_NoCubes)) (mc_NoFit : mg "NoFit" = some (.ref c_NoFit)) (mc_NoName : mg "NoName" = some (.ref c_NoName)) (mc_NoNumber : mg "NoNumber" = some (.ref c_NoNumber)) (mc_NoPaints : mg "NoPaints" = some (.ref c_NoPaints)) (mc_NoPalette : mg "NoPalette" = some (.ref c_NoPalette)) (mc_NoPaper : mg "NoPaper" = some (.ref c_NoPaper)) (mc_NoPlace : mg "NoPlace" = some (.ref c_NoPlace)) (mc_NoRow : mg "NoRow" = some (.ref c_NoRow)) (mc_NoSix : mg "NoSix" = some (.ref c_NoSix)) (mc_NoStock : mg "NoStock" = some (.ref c_NoStock)) (mc_NoText : mg "NoText" = some (.ref c_NoText)) (mc_NoTurn : mg "NoTurn" = some (.ref c_NoTurn)) (mc_NoWord : mg "NoWord" = some (.ref c_NoWord)) (mc_TooMany : mg "TooMany" = some (.ref c_TooMany)) (hM : markB K [c_NoBack, c_NoBase, c_NoChange, c_NoCounts, c_NoCube, c_NoCubes, c_NoFit, c_NoName, c_NoNumber, c_NoPaints, c_NoPalette, c_NoPaper, c_NoPlace, c_NoRow, c_NoSix, c_NoStock, c_NoText, c_NoTurn, c_NoWord, c_TooMany] [9, 17] = true) : FnOk P w K mg base CX0 1 f fd ["_law_caught"] (spP K (aMarks [c_NoBack, c_NoBase, c_NoChange, c_NoCounts, c_NoCube, c_NoCubes, c_NoFit, c_NoName, c_NoNumber, c_NoPaints, c_NoPalette, c_NoPaper, c_NoPlace, c_NoRow, c_NoSix, c_NoStock, c_NoText, c_NoTurn, c_NoWord, c_TooMany] [9, 17]) (fMarks [c_NoBack, c_NoBase, c_NoChange, c_NoCounts, c_NoCube, c_NoCubes, c_NoFit, c_NoName, c_NoNumber, c_NoPaints, c_NoPalette, c_NoPaper, c_NoPlace, c_NoRow, c_NoSix, c_NoStock, c_NoText, c_NoTurn, c_NoWord, c_TooMany] [9, 17])) := by
  refine F.ok sc__law_marks (spP_len (n := 1) (fun es h => by obtain ⟨i, C, hi, hcs, rfl⟩ := h; rfl)) (fun cdv A outer s H vs Q E hr h => ?_)
  have hu := hr.units
  have hu5 := hu5_of hr
  refine ⟨_, (pss_cons (ps_set (i := 1) sc__law_marks.nd rfl (Or.inl rfl) (pe_lst (pa_cons (pe_callB cr_isX (by rfl) m_isinstance (by decide +kernel) (pa_cons (pv 0) (pa_cons (pe_glob (v := .ref c_NoBack) (by rfl) mc_NoBack rfl) pa_nil))) (pa_cons (pe_callB cr_isX (by rfl) m_isinstance (by decide +kernel) (pa_cons (pv 0) (pa_cons (pe_glob (v := .ref c_NoBase) (by rfl) mc_NoBase rfl) pa_nil))) (pa_cons (pe_callB cr_isX (by rfl) m_isinstance (by decide +kernel) (pa_cons (pv 0) (pa_cons (pe_glob (v := .ref c_NoChange) (by rfl) mc_NoChange rfl) pa_nil))) pa_nil)))))
        (pss_cons (ps_set (i := 1) sc__law_marks.nd rfl (Or.inl rfl) (pe_op op_cat (pv 1) (pe_lst (pa_cons (pe_callB cr_isX (by rfl) m_isinstance (by decide +kernel) (pa_cons (pv 0) (pa_cons (pe_glob (v := .ref c_NoCounts) (by rfl) mc_NoCounts rfl) pa_nil))) (pa_cons (pe_callB cr_isX (by rfl) m_isinstance (by decide +kernel) (pa_cons (pv 0) (pa_cons (pe_glob (v := .ref c_NoCube) (by rfl) mc_NoCube rfl) pa_nil))) (pa_cons (pe_callB cr_isX (by rfl) m_isinstance (by decide +kernel) (pa_cons (pv 0) (pa_cons (pe_glob (v := .ref c_NoCubes) (by rfl) mc_NoCubes rfl) pa_nil))) pa_nil))))))
        (pss_cons (ps_set (i := 1) sc__law_marks.nd rfl (Or.inl rfl) (pe_op op_cat (pv 1) (pe_lst (pa_cons (pe_callB cr_isX (by rfl) m_isinstance (by decide +kernel) (pa_cons (pv 0) (pa_cons (pe_glob (v := .ref c_NoFit) (by rfl) mc_NoFit rfl) pa_nil))) (pa_cons (pe_callB cr_isX (by rfl) m_isinstance (by decide +kernel) (pa_cons (pv 0) (pa_cons (pe_glob (v := .ref c_NoName) (by rfl) mc_NoName rfl) pa_nil))) (pa_cons (pe_callB cr_isX (by rfl) m_isinstance (by decide +kernel) (pa_cons (pv 0) (pa_cons (pe_glob (v := .ref c_NoNumber) (by rfl) mc_NoNumber rfl) pa_nil))) pa_nil))))))
        (pss_cons (ps_set (i := 1) sc__law_marks.nd rfl (Or.inl rfl) (pe_op op_cat (pv 1) (pe_lst (pa_cons (pe_callB cr_isX (by rfl) m_isinstance (by decide +kernel) (pa_cons (pv 0) (pa_cons (pe_glob (v := .ref c_NoPaints) (by rfl) mc_NoPaints rfl) pa_nil))) (pa_cons (pe_callB cr_isX (by rfl) m_isinstance (by decide +kernel) (pa_cons (pv 0) (pa_cons (pe_glob (v := .ref c_NoPalette) (by rfl) mc_NoPalette rfl) pa_nil))) (pa_cons (pe_callB cr_isX (by rfl) m_isinstance (by decide +kernel) (pa_cons (pv 0) (pa_cons (pe_glob (v := .ref c_NoPaper) (by rfl) mc_NoPaper rfl) pa_nil))) pa_nil))))))
        (pss_cons (ps_set (i := 1) sc__law_marks.nd rfl (Or.inl rfl) (pe_op op_cat (pv 1) (pe_lst (pa_cons (pe_callB cr_isX (by rfl) m_isinstance (by decide +kernel) (pa_cons (pv 0) (pa_cons (pe_glob (v := .ref c_NoPlace) (by rfl) mc_NoPlace rfl) pa_nil))) (pa_cons (pe_callB cr_isX (by rfl) m_isinstance (by decide +kernel) (pa_cons (pv 0) (pa_cons (pe_glob (v := .ref c_NoRow) (by rfl) mc_NoRow rfl) pa_nil))) (pa_cons (pe_callB cr_isX (by rfl) m_isinstance (by decide +kernel) (pa_cons (pv 0) (pa_cons (pe_glob (v := .ref c_NoSix) (by rfl) mc_NoSix rfl) pa_nil))) pa_nil))))))
        (pss_cons (ps_set (i := 1) sc__law_marks.nd rfl (Or.inl rfl) (pe_op op_cat (pv 1) (pe_lst (pa_cons (pe_callB cr_isX (by rfl) m_isinstance (by decide +kernel) (pa_cons (pv 0) (pa_cons (pe_glob (v := .ref c_NoStock) (by rfl) mc_NoStock rfl) pa_nil))) (pa_cons (pe_callB cr_isX (by rfl) m_isinstance (by decide +kernel) (pa_cons (pv 0) (pa_cons (pe_glob (v := .ref c_NoText) (by rfl) mc_NoText rfl) pa_nil))) (pa_cons (pe_callB cr_isX (by rfl) m_isinstance (by decide +kernel) (pa_cons (pv 0) (pa_cons (pe_glob (v := .ref c_NoTurn) (by rfl) mc_NoTurn rfl) pa_nil))) pa_nil))))))
        (pss_cons (ps_set (i := 1) sc__law_marks.nd rfl (Or.inl rfl) (pe_op op_cat (pv 1) (pe_lst (pa_cons (pe_callB cr_isX (by rfl) m_isinstance (by decide +kernel) (pa_cons (pv 0) (pa_cons (pe_glob (v := .ref c_NoWord) (by rfl) mc_NoWord rfl) pa_nil))) (pa_cons (pe_callB cr_isX (by rfl) m_isinstance (by decide +kernel) (pa_cons (pv 0) (pa_cons (pe_glob (v := .ref c_TooMany) (by rfl) mc_TooMany rfl) pa_nil))) pa_nil)))))
        (pss_cons (ps_set (i := 2) sc__law_marks.nd rfl (Or.inl rfl) (pe_bm PySem.F.plainAttrs_str PySem.F.slot_str_split PySem.F.type_str_split mt_splitS pe_str (pa_cons pe_str pa_nil)))
        (pss_cons (ps_set (i := 2) sc__law_marks.nd rfl (Or.inl rfl) (pe_op op_cat (pv 2) (pe_bm PySem.F.plainAttrs_str PySem.F.slot_str_split PySem.F.type_str_split mt_splitS pe_str (pa_cons pe_str pa_nil))))
        (pss_cons (ps_setLc (i := 3) (te := (tVar 4)) (own := [("_law_word", 4), ("_law_hit", 5)]) (g := gTup K 2 (gCons (gName 4) (gCons (gName 5) gNil))) rfl sc__law_marks.nd rfl rfl (sw_true rfl rfl rfl (by decide +kernel)) (RZ.pi_zipA (by rfl) m_zip (pa_cons (pv 2) (pa_cons (pv 1) pa_nil))) (blkOk_by (own := [("_law_word", 4), ("_law_hit", 5)]) (N := N__law_marks) (sc := defScope s__law_marks) (by decide +kernel)) (fun _ _ _ _ _ => pg_tup rfl (pgs_cons (pg_name (i := 4) sc__law_marks.nd rfl (Or.inl rfl)) (pgs_cons (pg_name (i := 5) sc__law_marks.nd rfl (Or.inl rfl)) pgs_nil))) (fun _ _ _ _ _ => (pts_one (pt_val (pv 5)))) (fun _ _ _ _ _ => (pv 4)))
        (pss_one (ps_ret (pe_op op_cat (pv 3) (pe_op op_rep (pe_lst (pa_cons pe_str pa_nil)) (pe_callTy call_int1 (by rfl) m_int (by decide +kernel) (pa_cons (pe_not (pe_callB cr_isX (by rfl) m_isinstance (by decide +kernel) (pa_cons (pv 0) (pa_cons (pe_bltn (v := .ty "ValueError") (u := .type "ValueError") (by rfl) m_ValueError (by decide +kernel) rfl) pa_nil)))) pa_nil)))))))))))))))), run_pure h fun f s es ha => ?_⟩
  obtain ⟨i, C, hi, hcs, rfl⟩ := ha
  obtain ⟨hA, hK⟩ := mark_at hM hi hcs
  obtain ⟨hC, hV⟩ := ask_of hA
  refine sd_ol (ol_lst (ea_cons (ed_isCls hC (ed_var rfl) (kit_at hK (j := 0) rfl)) (ea_cons (ed_isCls hC (ed_var rfl) (kit_at hK (j := 1) rfl)) (ea_cons (ed_isCls hC (ed_var rfl) (kit_at hK (j := 2) rfl)) ea_nil))) (Nat.le_of_ble_eq_true rfl)) fun D0 => ?_
  refine sd_olTop (ol_cat rfl (List.mem_cons_self ..) (ol_lst (ea_cons (ed_isCls hC (ed_var rfl) (kit_at hK (j := 3) rfl)) (ea_cons (ed_isCls hC (ed_var rfl) (kit_at hK (j := 4) rfl)) (ea_cons (ed_isCls hC (ed_var rfl) (kit_at hK (j := 5) rfl)) ea_nil))) (Nat.le_of_ble_eq_true rfl)) (Nat.le_of_ble_eq_true rfl)) fun D1 => ?_
  refine sd_olTop (ol_cat rfl (List.mem_cons_self ..) (ol_lst (ea_cons (ed_isCls hC (ed_var rfl) (kit_at hK (j := 6) rfl)) (ea_cons (ed_isCls hC (ed_var rfl) (kit_at hK (j := 7) rfl)) (ea_cons (ed_isCls hC (ed_var rfl) (kit_at hK (j := 8) rfl)) ea_nil))) (Nat.le_of_ble_eq_true rfl)) (Nat.le_of_ble_eq_true rfl)) fun D2 => ?_
  refine sd_olTop (ol_cat rfl (List.mem_cons_self ..) (ol_lst (ea_cons (ed_isCls hC (ed_var rfl) (kit_at hK (j := 9) rfl)) (ea_cons (ed_isCls hC (ed_var rfl) (kit_at hK (j := 10) rfl)) (ea_cons (ed_isCls hC (ed_var rfl) (kit_at hK (j := 11) rfl)) ea_nil))) (Nat.le_of_ble_eq_true rfl)) (Nat.le_of_ble_eq_true rfl)) fun D3 => ?_
  refine sd_olTop (ol_cat rfl (List.mem_cons_self ..) (ol_lst (ea_cons (ed_isCls hC (ed_var rfl) (kit_at hK (j := 12) rfl)) (ea_cons (ed_isCls hC (ed_var rfl) (kit_at hK (j := 13) rfl)) (ea_cons (ed_isCls hC (ed_var rfl) (kit_at hK (j := 14) rfl)) ea_nil))) (Nat.le_of_ble_eq_true rfl)) (Nat.le_of_ble_eq_true rfl)) fun D4 => ?_
  refine sd_olTop (ol_cat rfl (List.mem_cons_self ..) (ol_lst (ea_cons (ed_isCls hC (ed_var rfl) (kit_at hK (j := 15) rfl)) (ea_cons (ed_isCls hC (ed_var rfl) (kit_at hK (j := 16) rfl)) (ea_cons (ed_isCls hC (ed_var rfl) (kit_at hK (j := 17) rfl)) ea_nil))) (Nat.le_of_ble_eq_true rfl)) (Nat.le_of_ble_eq_true rfl)) fun D5 => ?_
  refine sd_olTop (ol_cat rfl (List.mem_cons_self ..) (ol_lst (ea_cons (ed_isCls hC (ed_var rfl) (kit_at hK (j := 18) rfl)) (ea_cons (ed_isCls hC (ed_var rfl) (kit_at hK (j := 19) rfl)) ea_nil)) (Nat.le_of_ble_eq_true rfl)) (Nat.le_of_ble_eq_true rfl)) fun D6 => ?_
  refine sd_ownData (i := 1) (ds := (indB 20 i).map PyData.bool) rfl ?_
  refine sd_ol (ol_split (ys := MWORDS.take 11) (by decide +kernel) (by decide) (by decide)) fun D7 => ?_
  refine sd_olTop (ol_cat rfl (List.mem_cons_self ..) (ol_split (ys := MWORDS.drop 11) (by decide +kernel) (by decide) (by decide)) (by decide)) fun D8 => ?_
  refine sd_ownData (i := 2) (ds := MWORDS.map PyData.str) rfl ?_
  refine sd_ol (ol_lcZ (ds := MWORDS.map PyData.str) (ds2 := (indB 20 i).map PyData.bool) (fun x => match x.2 with | .bool b => b | _ => false) (·.1) (ea_cons (ed_var rfl) (ea_cons (ed_var rfl) ea_nil)) (by decide) (by unfold indB; rw [List.length_map, List.length_map, List.length_map, List.length_range]; rfl) (by decide) (fun d d2 hz s' => ?_) (fun d d2 hz _ s' => ed_var rfl)) fun D9 => ?_
  · obtain ⟨b, _, rfl⟩ := List.mem_map.mp (List.of_mem_zip hz).2
    exact et_B (ed_var rfl)
  rw [marks_found i (by simp only [List.mem_cons, List.not_mem_nil, or_false] at hi; omega)]
  refine sd_retI (ed_ol (ds := [PyData.str (MWORDS.getD i "")]) (ol_is (ol_cat rfl (List.mem_cons_self ..) (ol_rep (k := 0) (ol_lst (ea_cons ed_c ea_nil) (by decide)) (fun q => ed_is (ed_cb (ea_cons (ed_notV (ed_isClsT hC (ed_var rfl) hV)) ea_nil) cd_intB) rfl) (by decide) (by decide)) (Nat.le_of_ble_eq_true rfl)) rfl)) fun i' C' hi' hcs' e => ?_
  have eC : C = C' := excE_inj (by injection e)
  subst eC
  rw [nd_ix (mark_nd hM) hcs hcs']
/-! ### the purse -/
theorem CellOk_small {i : Int} (h : (if i < 0 then -i else i) < 10 ^ 18) : CellOk i := by
  unfold CellOk
  have h2 : (10 : Nat) ^ 18 < 2 ^ 4000 := by decide +kernel
  have h3 : (10 : Int) ^ 18 = ((10 ^ 18 : Nat) : Int) := by decide +kernel
  rw [h3] at h
  refine Nat.lt_trans ?_ h2
  split at h <;> omega
theorem CellOk_mod (i : Int) : CellOk (i % ((10 ^ (60 : Nat)) ^ (20 : Nat))) := by
  unfold CellOk
  have h2 : ((10 : Nat) ^ 60) ^ 20 < 2 ^ 4000 := by decide +kernel
  have h3 : ((10 : Int) ^ (60 : Nat)) ^ (20 : Nat) = (((10 ^ 60) ^ 20 : Nat) : Int) := by decide +kernel
  rw [h3]
  have h4 : (0 : Int) < (((10 ^ 60) ^ 20 : Nat) : Int) := by decide +kernel
  have a := Int.emod_nonneg i (Int.ne_of_gt h4)
  have b := Int.emod_lt_of_pos i h4
  refine Nat.lt_trans ?_ h2
  revert a b
  generalize i % (((10 ^ 60) ^ 20 : Nat) : Int) = x
  generalize (10 ^ 60) ^ 20 = y
  intro a b
  omega
theorem cut63 {xs : List V} (h : xs.length ≤ 63) : cutV xs none (some 63) = xs := by
  unfold cutV
  rw [HT.sIx_none, show HT.sIx xs.length xs.length (some 63) = min 63 xs.length from HT.sIx_nat xs.length xs.length 63, List.drop_zero]
  exact List.take_of_length_le (by omega)
theorem ok_purse {f : Addr} {fd : FuncData} (F : Fun K "_law_purse" "_law_purse" s__law_purse f fd) (m_range : mg "range" = none) (m_len : mg "len" = none) (m_abs : mg "abs" = none) : FnOk P w K mg base CX0 1 f fd ["_law_script"] (spPurse K) := by
  refine F.ok sc__law_purse (fun vs H Q E h => ?_) (fun cdv A outer s H vs Q E hr h => ?_)
  · obtain ⟨a, ns, rfl, _⟩ := h
    rfl
  · obtain ⟨a, ns, rfl, hS, hl, k⟩ := h
    have hu := hr.units
    refine ⟨_, pss_cons (ps_set (i := 1) sc__law_purse.nd rfl (Or.inl rfl) (pe_slice sl_list (pv 0) po_none (po_some pe_int)))
      (pss_cons (ps_for PassesOwn.never rfl (pi_range1 (by rfl) m_range (pa_cons (pe_callB call_len_seq (by rfl) m_len (by decide +kernel) (pa_cons (pv 1) pa_nil)) pa_nil)) (pg_name (i := 2) sc__law_purse.nd rfl (Or.inl rfl))
        (pss_one (ps_if (pt_cmpR op_ge (pe_callB call_abs (by rfl) m_abs (by decide +kernel) (pa_cons (pe_ix ix_list (pv 1) (pv 2) (fun _ _ => rfl)) pa_nil)) (pe_op op_powX pe_int pe_int) (nomark _))
          (pss_one (ps_asg (pe_op op_mod (pe_ix ix_list (pv 1) (pv 2) (fun _ _ => rfl)) (pe_op op_powX (pe_op op_powX pe_int pe_int) pe_int)) (pg_sub (pv 1) (pv 2) set_list))) pss_nil)))
      (pss_cons (ps_if (pt_cmpR (op_eqD hu) (pv 1) (pe_lst pa_nil) (nomark _)) (pss_one (ps_set (i := 1) sc__law_purse.nd rfl (Or.inl rfl) (pe_lst (pa_cons pe_int pa_nil)))) pss_nil)
      (pss_one (ps_ret (pe_lst (pa_cons (pv 1) (pa_cons pe_int pa_nil))))))), ?_⟩
    refine ⟨.ref a, rfl, 63, rfl, a, ns.map V.int, rfl, hS, fun c nc => ?_⟩
    rw [cut63 (by rw [List.length_map]; exact hl)]
    refine ⟨.ref c, rfl, c, ns.map V.int, rfl, .inl (sq_of upd_same), ((ns.map V.int).length : Int), rfl, by omega, by rw [List.length_map]; omega, ?_⟩
    rw [Int.toNat_natCast, List.length_map]
    refine for_range (lo := 0) (n := ns.length) (fun i σ H' => ∃ (cs : List Int) (y : Option V), σ = [some (.ref a), some (.ref c), y] ∧ Ex H H' ∧ H' c = some (.lst (cs.map V.int)) ∧ cs.length = ns.length ∧ ∀ j, j < i → ∀ v, cs[j]? = some v → CellOk v) ?_ ?_ ?_
    · exact ⟨ns, none, rfl, Ex.new nc, upd_same, rfl, fun j hj => absurd hj (Nat.not_lt_zero _)⟩
    · rintro i σ H1 hi ⟨cs, y, rfl, e1, hc, hlen, hok⟩
      have hi2 : i < cs.length := by omega
      have hat : atI (cs.map V.int) ((0 : Int) + (i : Int)) = some (.int cs[i]) := by
        rw [Int.zero_add]
        exact atI_nat (by rw [List.getElem?_map, List.getElem?_eq_getElem hi2]; rfl)
      refine ⟨.ref c, rfl, .int ((0 : Int) + (i : Int)), rfl, c, _, _, _, rfl, rfl, sq_of hc, hat, cs[i], rfl, 10, 18, rfl, rfl, ⟨by decide, by decide +kernel⟩, _, _, rfl, rfl, _, rfl, ?_⟩
      refine ite2 (fun hb => ?_) (fun hb => ?_)
      · refine ⟨.ref c, rfl, .int ((0 : Int) + (i : Int)), rfl, c, _, _, _, rfl, rfl, sq_of hc, hat, 10, 60, rfl, rfl, ⟨by decide, by decide +kernel⟩, _, 20, rfl, rfl, ⟨by decide, by decide +kernel⟩, cs[i], _, rfl, rfl, (by show (0 : Int) < (10 ^ (60 : Int).toNat) ^ (20 : Int).toNat; decide +kernel), .ref c, rfl, .int ((0 : Int) + (i : Int)), rfl, c, _, _, i, rfl, rfl, hc, ?_, ?_⟩
        · rw [Int.zero_add, List.length_map]
          exact Evl.ixN_nat hi2
        · refine ⟨cs.set i (cs[i] % ((10 ^ (60 : Nat)) ^ (20 : Nat))), _, rfl, e1.mut nc, ?_, by rw [List.length_set]; exact hlen, fun j hj v hv => ?_⟩
          · rw [upd_same, ← List.map_set]
            rfl
          · by_cases hji : j = i
            · subst hji
              rw [List.getElem?_set_self hi2] at hv
              cases hv
              exact CellOk_mod _
            · rw [List.getElem?_set_ne (fun z => hji z.symm)] at hv
              exact hok j (by omega) v hv
      · refine ⟨cs, _, rfl, e1, hc, hlen, fun j hj v hv => ?_⟩
        by_cases hji : j = i
        · subst hji
          rw [List.getElem?_eq_getElem hi2] at hv
          cases hv
          refine CellOk_small ?_
          have hb2 : ¬ ((10 : Int) ^ (18 : Int).toNat ≤ (if cs[j] < 0 then -cs[j] else cs[j])) := fun z => hb (decide_eq_true z)
          have e18 : (10 : Int) ^ (18 : Int).toNat = 10 ^ 18 := by decide +kernel
          rw [e18] at hb2
          exact Int.lt_of_not_ge hb2
        · exact hok j (by omega) v hv
    · rintro σ H1 ⟨cs, y, rfl, e1, hc, hlen, hok⟩
      have hcv : ∀ v ∈ cs, CellOk v := fun v hv => by
        obtain ⟨j, hj, rfl⟩ := List.mem_iff_getElem.mp hv
        exact hok j (by omega) _ (List.getElem?_eq_getElem hj)
      refine ⟨.ref c, rfl, Nat.zero_le _, fun q nq => ?_⟩
      have ncq : c ≠ q := ne_of_none hc nq
      have hc2 : (upd H1 q (.lst [])) c = some (.lst (cs.map V.int)) := by rw [upd_ne ncq]; exact hc
      refine ⟨.list (cs.map .int), .list [], .lst (sq_of hc2) (dpa_of_ints cs), .lst (sq_of upd_same) .nil, shaped_ints cs, rfl, _, rfl, ?_⟩
      have e2 : Ex H (upd H1 q (.lst [])) := e1.trans (Ex.new nq)
      cases cs with
      | nil =>
        refine iteT ?_
        refine ⟨by decide, fun r nr => ?_⟩
        have nr1 : H1 r = none := fresh_back (Ex.new nq) nr
        refine ⟨.ref r, rfl, (by show 2 ≤ sizeLine; decide), fun p np => ?_⟩
        have np0 := fresh_back (Ex.new nr) np
        have hp0 : H p = none := fresh_back e2 np0
        have npr : r ≠ p := ne_of_none (upd_same) np
        refine k p r _ hp0 (fresh_back e2 nr) npr.symm ((e2.trans (Ex.new nr)).trans (Ex.new np)) ⟨[0], 0, upd_same, ?_, by decide, by decide, ?_, by decide⟩
        · rw [upd_ne npr, upd_same]
          rfl
        · intro i hi
          rw [List.mem_singleton.mp hi]
          exact CellOk_small (by decide)
      | cons x r =>
        have hlv : PyData.eqv (.list ((x :: r).map .int)) (.list []) = false := by simp [PyData.eqv, PyData.eqvAll]
        rw [hlv]
        refine iteF ?_
        refine ⟨.ref c, rfl, (by show 2 ≤ sizeLine; decide), fun p np => ?_⟩
        have hp0 : H p = none := fresh_back e2 np
        have npc : c ≠ p := ne_of_none hc2 np
        refine k p c _ hp0 nc npc.symm (e2.trans (Ex.new np)) ⟨x :: r, 0, upd_same, ?_, by simp, by omega, hcv, by decide⟩
        rw [upd_ne npc]
        exact hc2
theorem ok_draw {f : Addr} {fd : FuncData} (F : Fun K "_law_draw" "_law_draw" s__law_draw f fd) (m_len : mg "len" = none) : FnOk P w K mg base CX0 1 f fd ["_law_purse_here", "_law_out_of"] spDraw := by
  refine F.ok sc__law_draw (fun vs H Q E h => ?_) (fun cdv A outer s H vs Q E hr h => ?_)
  · obtain ⟨p, c, n, m, rfl, _⟩ := h
    rfl
  · obtain ⟨p, c, n, m, rfl, ⟨cs, t, hp, hc, h0, h63, hok, ht⟩, m1, m2, k⟩ := h
    have hu := hr.units
    refine ⟨_, (pss_cons (ps_asg (pv 0) (pg_unl rfl (pgs_cons (pg_name (i := 2) sc__law_draw.nd rfl (Or.inl rfl)) (pgs_cons (pg_name (i := 3) sc__law_draw.nd rfl (Or.inl rfl)) pgs_nil))))
        (pss_cons (ps_set (i := 4) sc__law_draw.nd rfl (Or.inl rfl) (pe_op op_mod (pv 3) (pe_callB call_len_seq (by rfl) m_len (by decide +kernel) (pa_cons (pv 2) pa_nil))))
        (pss_cons (ps_set (i := 5) sc__law_draw.nd rfl (Or.inl rfl) (pe_ix ix_list (pv 2) (pv 4) (fun _ _ => rfl)))
        (pss_cons (ps_asg (pe_op op_add (pv 3) pe_int) (pg_sub (pv 0) pe_int set_list))
        (pss_cons (ps_if (pt_cmpR op_ge (pv 5) (pe_op op_powX pe_int pe_int) (nomark _)) (pss_cons (ps_asg (pe_op op_fdivW (pv 5) (pv 1)) (pg_sub (pv 2) (pv 4) set_list))
        (pss_one (ps_ret (pe_op op_mod (pv 5) (pv 1))))) pss_nil)
        (pss_cons (ps_set (i := 6) sc__law_draw.nd rfl (Or.inl rfl) (pe_op op_mod (pe_op op_add (pe_op op_add (pe_op op_mul (pe_op op_mod (pv 5) pe_int) pe_int) (pe_op op_mul (pe_op op_mul (pv 3) (pv 3)) pe_int)) pe_int) pe_int))
        (pss_cons (ps_set (i := 6) sc__law_draw.nd rfl (Or.inl rfl) (pe_op op_mod (pe_op op_mul (pv 6) (pv 6)) pe_int))
        (pss_cons (ps_set (i := 6) sc__law_draw.nd rfl (Or.inl rfl) (pe_op op_mod (pe_op op_mul (pv 6) (pv 6)) pe_int))
        (pss_cons (ps_if (pt_cmpR op_gt (pv 1) (pe_op op_powX pe_int pe_int) (nomark _)) (pss_cons (ps_set (i := 7) sc__law_draw.nd rfl (Or.inl rfl) (pe_op op_mod (pe_op op_add (pe_op op_add (pe_op op_mul (pv 6) pe_int) (pe_op op_mul (pv 3) pe_int)) pe_int) pe_int))
        (pss_one (ps_set (i := 6) sc__law_draw.nd rfl (Or.inl rfl) (pe_op op_mul (pv 6) (pe_op op_add (pe_op op_mul (pe_op op_mul (pv 7) (pv 7)) (pv 7)) pe_int))))) pss_nil)
        (pss_one (ps_ret (pe_op op_mod (pv 6) (pv 1))))))))))))), ?_⟩
    have npc : c ≠ p := fun z => by
      rw [z, hp] at hc
      have := Option.some.inj hc
      have e2 : [V.ref c, V.int (t : Int)] = cs.map V.int := by injection this
      cases cs with
      | nil => cases e2
      | cons x r => cases e2
    have hn0 : (0 : Int) < (cs.length : Int) := by omega
    obtain ⟨j, hj⟩ : ∃ j : Nat, (t : Int) % (cs.length : Int) = (j : Int) := ⟨((t : Int) % (cs.length : Int)).toNat, by have := Int.emod_nonneg (t : Int) (Int.ne_of_gt hn0); omega⟩
    have hj2 : j < cs.length := by have := Int.emod_lt_of_pos (t : Int) hn0; omega
    have hat : atI (cs.map V.int) (j : Int) = some (.int cs[j]) := atI_nat (by rw [List.getElem?_map, List.getElem?_eq_getElem hj2]; rfl)
    -- cells, turn = purse
    refine ⟨.ref p, rfl, p, _, rfl, sq_of hp, rfl, .ref c, _, rfl, .int (t : Int), [], rfl, rfl, ?_⟩
    -- at = turn % len(cells)
    refine ⟨.int (t : Int), rfl, .ref c, rfl, c, _, rfl, .inl (sq_of hc), (t : Int), _, rfl, rfl, (by rw [List.length_map]; exact hn0), ?_⟩
    rw [List.length_map]
    show gName 4 (.int ((t : Int) % (cs.length : Int))) _ _ _
    rw [hj]
    -- cell = cells[at]
    refine ⟨.ref c, rfl, .int (j : Int), rfl, c, _, _, _, rfl, rfl, sq_of hc, hat, ?_⟩
    -- purse[1] = turn + 1
    refine ⟨.int (t : Int), rfl, (t : Int), 1, rfl, rfl, .ref p, rfl, p, _, _, 1, rfl, rfl, hp, rfl, ?_⟩
    have hc2 : (upd H p (.lst ([V.ref c, V.int (t : Int)].set 1 (.int ((t : Int) + 1))))) c = some (.lst (cs.map V.int)) := by rw [upd_ne npc]; exact hc
    have hp2 : (upd H p (.lst ([V.ref c, V.int (t : Int)].set 1 (.int ((t : Int) + 1))))) p = some (.lst [V.ref c, V.int (((t + 1 : Nat)) : Int)]) := by rw [upd_same]; rfl
    -- if cell >= 10 ** 18
    refine ⟨.int cs[j], rfl, 10, 18, rfl, rfl, ⟨by decide, by decide +kernel⟩, _, _, rfl, rfl, _, rfl, ?_⟩
    refine ite2 (fun hb => ?_) (fun hb => ?_)
    · have hb2 : (10 : Int) ^ (18 : Int).toNat ≤ cs[j] := of_decide_eq_true hb
      have hb3 : 0 ≤ cs[j] := Int.le_trans (by decide) hb2
      refine ⟨.int cs[j], rfl, .int m, rfl, _, _, rfl, rfl, ⟨by omega, ?_⟩, .ref c, rfl, .int (j : Int), rfl, c, _, _, j, rfl, rfl, hc2, (by rw [List.length_map]; exact Evl.ixN_nat hj2), ?_⟩
      · refine Nat.lt_of_lt_of_le (PySem.Flt.log2_lt_of (k := 4001) (by decide) ?_) (by decide)
        have e4 : (2 : Int) ^ 4000 = ((2 ^ 4000 : Nat) : Int) := by decide +kernel
        rw [e4] at m2
        have e5 : (2 : Nat) ^ 4000 < 2 ^ 4001 := by decide +kernel
        revert m2 e5
        generalize (2 : Nat) ^ 4000 = y
        generalize (2 : Nat) ^ 4001 = z
        intro m2 e5
        omega
      · refine ⟨.int cs[j], rfl, .int m, rfl, _, _, rfl, rfl, (by show (0 : Int) < m; omega), ?_⟩
        refine k _ _ (Int.emod_nonneg _ (by omega)) (Int.emod_lt_of_pos _ (by omega)) ⟨cs.set j (cs[j] / m), t + 1, ?_, ?_, by rw [List.length_set]; exact h0, by rw [List.length_set]; exact h63, fun i hi => ?_, by omega⟩ fun b o n1 n2 e => ?_
        · rw [upd_ne npc.symm]
          exact hp2
        · rw [upd_same, ← List.map_set]
        · rcases List.mem_or_eq_of_mem_set hi with hi | rfl
          · exact hok i hi
          · have h1 := hok _ (List.getElem_mem hj2)
            unfold CellOk at h1 ⊢
            refine Nat.lt_of_le_of_lt ?_ h1
            have h5 : cs[j] / m ≤ cs[j] := Int.ediv_le_self _ hb3
            have h6 : 0 ≤ cs[j] / m := Int.ediv_nonneg hb3 (by omega)
            omega
        · rw [upd_ne n2, upd_ne n1]
          exact e
    · have m31 : ∀ (x y : Int), 0 < y → 0 ≤ x % y ∧ x % y < y := fun x y h => ⟨Int.emod_nonneg x (Int.ne_of_gt h), Int.emod_lt_of_pos x h⟩
      have t60 : (t : Int) ≤ 2 ^ 60 := by omega
      refine ⟨.int cs[j], rfl, _, _, rfl, rfl, (by show (0 : Int) < 2147483629; decide), _, _, rfl, rfl, .inr ⟨by decide, by decide⟩, .int (t : Int), rfl, .int (t : Int), rfl, _, _, rfl, rfl, .inl ⟨by omega, by omega⟩, _, _, rfl, rfl, .inr ⟨by decide, by decide⟩, _, _, rfl, rfl, _, _, rfl, rfl, _, _, rfl, rfl, (by show (0 : Int) < 2147483647; decide), ?_⟩
      dsimp only
      generalize hx1 : (cs[j] % 2147483629 * 48271 + (t : Int) * (t : Int) * 69621 + 11) % 2147483647 = x1
      have b1 := m31 (cs[j] % 2147483629 * 48271 + (t : Int) * (t : Int) * 69621 + 11) 2147483647 (by decide)
      rw [hx1] at b1
      refine ⟨.int x1, rfl, .int x1, rfl, _, _, rfl, rfl, .inl ⟨by omega, by omega⟩, _, _, rfl, rfl, (by show (0 : Int) < 2147483629; decide), ?_⟩
      dsimp only
      generalize hx2 : x1 * x1 % 2147483629 = x2
      have b2 := m31 (x1 * x1) 2147483629 (by decide)
      rw [hx2] at b2
      refine ⟨.int x2, rfl, .int x2, rfl, _, _, rfl, rfl, .inl ⟨by omega, by omega⟩, _, _, rfl, rfl, (by show (0 : Int) < 2147483587; decide), ?_⟩
      dsimp only
      generalize hx3 : x2 * x2 % 2147483587 = x3
      have b3 := m31 (x2 * x2) 2147483587 (by decide)
      rw [hx3] at b3
      have fin : ∀ (r : Int), 0 ≤ r → r < m → Q (.int r) (upd H p (.lst ([V.ref c, V.int (t : Int)].set 1 (.int ((t : Int) + 1))))) := fun r r0 r1 =>
        k r _ r0 r1 ⟨cs, t + 1, hp2, hc2, h0, h63, hok, by omega⟩ fun b o n1 n2 e => by rw [upd_ne n1]; exact e
      refine ⟨.int m, rfl, 10, 9, rfl, rfl, ⟨by decide, by decide +kernel⟩, _, _, rfl, rfl, _, rfl, ?_⟩
      refine ite2 (fun _ => ?_) (fun _ => ?_)
      · refine ⟨.int x3, rfl, _, _, rfl, rfl, .inl ⟨by omega, by omega⟩, .int (t : Int), rfl, _, _, rfl, rfl, .inl ⟨by omega, by omega⟩, _, _, rfl, rfl, _, _, rfl, rfl, _, _, rfl, rfl, (by show (0 : Int) < 2147483629; decide), ?_⟩
        dsimp only
        generalize hx4 : (x3 * 39373 + (t : Int) * 7919 + 500) % 2147483629 = x4
        have b4 := m31 (x3 * 39373 + (t : Int) * 7919 + 500) 2147483629 (by decide)
        rw [hx4] at b4
        refine ⟨.int x3, rfl, .int x4, rfl, .int x4, rfl, _, _, rfl, rfl, .inl ⟨by omega, by omega⟩, .int x4, rfl, _, _, rfl, rfl, .inr ⟨by omega, by omega⟩, _, _, rfl, rfl, _, _, rfl, rfl, .inl ⟨by omega, by omega⟩, ?_⟩
        refine ⟨_, rfl, .int m, rfl, _, _, rfl, rfl, (by show (0 : Int) < m; omega), ?_⟩
        exact fin _ (Int.emod_nonneg _ (by omega)) (Int.emod_lt_of_pos _ (by omega))
      · refine ⟨.int x3, rfl, .int m, rfl, _, _, rfl, rfl, (by show (0 : Int) < m; omega), ?_⟩
        exact fin _ (Int.emod_nonneg _ (by omega)) (Int.emod_lt_of_pos _ (by omega))
theorem ok__law_whole {f : Addr} {fd : FuncData} (F : Fun K "_law_whole" "_law_whole" s__law_whole f fd) (m_bool : mg "bool" = none) (m_int : mg "int" = none) (m_isinstance : mg "isinstance" = none) : FnOk P w K mg base CX0 1 f fd ["_law_piece"] (spP K aAny fIsWhole) := by
  refine F.ok sc__law_whole (spP_len (n := 1) (fun es h => by obtain ⟨d, rfl⟩ := h; rfl)) (fun cdv A outer s H vs Q E hr h => ?_)
  have hu := hr.units
  have hu5 := hu5_of hr
  refine ⟨_, (pss_one (ps_ret (pe_and (pe_callB call_isi (by rfl) m_isinstance (by decide +kernel) (pa_cons (pv 0) (pa_cons (pe_bltn (v := .ty "int") (u := .type "int") (by rfl) m_int (by decide +kernel) rfl) pa_nil))) (pe_one (pe_not (pe_callB call_isi (by rfl) m_isinstance (by decide +kernel) (pa_cons (pv 0) (pa_cons (pe_bltn (v := .ty "bool") (u := .type "bool") (by rfl) m_bool (by decide +kernel) rfl) pa_nil)))))))), run_pure h fun f s es ha => ?_⟩
  obtain ⟨d, rfl⟩ := ha
  refine sd_retI (x := .dat (.bool (isWholeD d))) ?_ (fun _ e => by cases e; rfl)
  refine ed_is (ed_and (ed_isInt (ed_var rfl)) fun _ => ed_notV (ed_isBool (ed_var rfl))) ?_
  cases d <;> rfl
theorem ok__law_then {f : Addr} {fd : FuncData} (F : Fun K "_law_then" "_law_then" s__law_then f fd) (m_tuple : mg "tuple" = none) : FnOk P w K mg base CX0 1 f fd ["_law_first", "_law_second"] (spP K aJoin fJoin) := by
  refine F.ok sc__law_then (spP_len (n := 2) (fun es h => by obtain ⟨a, b, hab, hl, rfl⟩ := h; rfl)) (fun cdv A outer s H vs Q E hr h => ?_)
  have hu := hr.units
  have hu5 := hu5_of hr
  refine ⟨_, (pss_one (ps_ret (pe_callTy call_tupleF (by rfl) m_tuple (by decide +kernel) (pa_cons (pe_lc (te := (tOp (rIx K) (tVar 1) (tVar 2))) (own := [("_law_side", 2)]) (g := gName 2) rfl sc__law_then.nd (pi_tup (pv 0)) (blkOk_by (own := [("_law_side", 2)]) (N := N__law_then) (sc := defScope s__law_then) (by decide +kernel)) (fun _ _ _ _ _ => pg_name (i := 2) sc__law_then.nd rfl (Or.inl rfl)) (fun _ _ _ _ _ => pts_nil) (fun _ _ _ _ _ => (pe_ix ix_seq (pv 1) (pv 2) (fun _ _ => rfl)))) pa_nil)))), run_pure h fun f s es ha => ?_⟩
  obtain ⟨a, b, hab, hl, rfl⟩ := ha
  refine sd_retI (x := .dat (tupD (thenL a b))) ?_ (fun a' b' e => ?_)
  · refine ed_cb (ea_cons (ed_lcT1' (fun d => match d with | .int i => .int (b.getD i.toNat 0) | d => d) (ds := a.map .int) (ed_var rfl) (by rw [List.length_map]; omega) (fun d hd s' => ?_) (by show _ = (thenL a b).map PyData.int; unfold thenL; rw [List.map_map, List.map_map]; rfl)) ea_nil) cd_tuple
    obtain ⟨i, hi, rfl⟩ := List.mem_map.mp hd
    exact ed_op (ed_var rfl) (ed_var rfl) (od_ix (.inr rfl) (atI_thenL hab hi))
  · injection e with e1 e2
    injection e2 with e2 _
    rw [dat_inj e1, dat_inj e2]
theorem ok__law_turns {f : Addr} {fd : FuncData} (F : Fun K "_law_turns" "_law_turns" s__law_turns f fd) {f__law_then : Addr} {fd__law_then : FuncData} (G__law_then : FnOk P w K mg base CX0 1 f__law_then fd__law_then ["_law_first", "_law_second"] (spP K aJoin fJoin)) (m__law_then : mg "_law_then" = some (.ref f__law_then)) (k__law_then : PySem.W.keepIn K (.ref f__law_then) = true) (b__law_then : Binds K fd__law_then ["_law_first", "_law_second"] []) (m_len : mg "len" = none) (m_sorted : mg "sorted" = none) : FnOk P w K mg base CX0 2 f fd [] (spP K aNil fTurns) := by
  refine F.ok sc__law_turns (spP_len (n := 0) (fun es h => by obtain rfl := h; rfl)) (fun cdv A outer s H vs Q E hr h => ?_)
  have hu := hr.units
  have hu5 := hu5_of hr
  refine ⟨_, (pss_cons (ps_set (i := 0) sc__law_turns.nd rfl (Or.inl rfl) (pe_lst (pa_cons (pe_tupF (pa_cons pe_int (pa_cons pe_int (pa_cons pe_int (pa_cons pe_int (pa_cons pe_int (pa_cons pe_int pa_nil))))))) pa_nil)))
        (pss_cons (ps_set (i := 1) sc__law_turns.nd rfl (Or.inl rfl) pe_int)
        (pss_cons (ps_while PassesOwn.never (pt_cmpR op_lt (pv 1) (pe_callB call_len_seq (by rfl) m_len (by decide +kernel) (pa_cons (pv 0) pa_nil)) (nomark _)) (pss_cons (ps_for PassesOwn.never rfl (pi_list (pe_lst (pa_cons (pe_tupF (pa_cons pe_int (pa_cons pe_int (pa_cons pe_int (pa_cons pe_int (pa_cons pe_int (pa_cons pe_int pa_nil))))))) (pa_cons (pe_tupF (pa_cons pe_int (pa_cons pe_int (pa_cons pe_int (pa_cons pe_int (pa_cons pe_int (pa_cons pe_int pa_nil))))))) (pa_cons (pe_tupF (pa_cons pe_int (pa_cons pe_int (pa_cons pe_int (pa_cons pe_int (pa_cons pe_int (pa_cons pe_int pa_nil))))))) pa_nil))))) (pg_name (i := 2) sc__law_turns.nd rfl (Or.inl rfl)) (pss_cons (ps_set (i := 3) sc__law_turns.nd rfl (Or.inl rfl) (pe_call G__law_then (hr.mono (by decide)) (by rfl) m__law_then k__law_then b__law_then .nil pass0 (pa_cons (pe_ix ix_seq (pv 0) (pv 1) (fun _ _ => rfl)) (pa_cons (pv 2) pa_nil))))
        (pss_one (ps_if (pt_cmpR (op_notInD hu5) (pv 3) (pv 0) (by rfl)) (pss_one (ps_expr (pe_bm PySem.F.plainAttrs_list PySem.F.slot_list_append PySem.F.type_list_append mt_append (pv 0) (pa_cons (pv 3) pa_nil)))) pss_nil))))
        (pss_one (ps_set (i := 1) sc__law_turns.nd rfl (Or.inl rfl) (pe_op op_add (pv 1) pe_int)))))
        (pss_one (ps_ret (pe_callB (cr_sortT (d := 6) (B := 6) (by decide)) (by rfl) m_sorted (by decide +kernel) (pa_cons (pv 0) pa_nil))))))), run_pure h fun f s es ha => ?_⟩
  obtain rfl := ha
  refine sd_ownNew (es := [.dat (tupD STILLn)]) (ea_cons (ed_tup (ea_cons ed_c (ea_cons ed_c (ea_cons ed_c (ea_cons ed_c (ea_cons ed_c (ea_cons ed_c ea_nil)))))) rfl) ea_nil) (by decide) fun D => ?_
  refine sd_asgI ed_c ?_
  refine sd_seq (M := fun s' δ' => s' = ⟨s.n, (D, ((bf 72).map tupD).map .dat) :: s.own⟩ ∧ ∃ x y, δ' = [.val (.ref D), .dat (.int 24), x, y]) ?_ fun s' δ' h => ?_
  · refine sd_while (fun m s' δ' => ∃ k : Nat, k ≤ 24 ∧ m = 24 - k ∧ s' = ⟨s.n, (D, ((bf (3 * k)).map tupD).map .dat) :: s.own⟩ ∧ ∃ x y, δ' = [.val (.ref D), .dat (.int (k : Int)), x, y]) 24 ⟨0, by decide, rfl, rfl, .no, .no, rfl⟩ ?_
    rintro m s' δ' ⟨k, hk, rfl, rfl, x, y, rfl⟩
    refine ⟨decide (k < 24), et_is (et_test (ed_op (ed_var rfl) (ed_cb (ea_cons (ed_var rfl) ea_nil) cd_lenOwn) od_I0)) ?_, fun hb => ?_, fun hb => ?_⟩
    · have q := bf_len k (by omega)
      rw [List.length_map, List.length_map]
      rw [Bool.eq_iff_iff, decide_eq_true_eq, decide_eq_true_eq]
      omega
    · have hk2 : k < 24 := of_decide_eq_true hb
      refine sd_seq (M := fun s' δ' => s' = ⟨s.n, (D, ((bf (3 * k + 3)).map tupD).map .dat) :: s.own⟩ ∧ ∃ x y, δ' = [.val (.ref D), .dat (.int (k : Int)), x, y]) ?_ fun s' δ' h => ?_
      · refine sd_forL (ds := QUARTS.map tupD) (ed_lst (ea_cons (ed_tup (ea_cons ed_c (ea_cons ed_c (ea_cons ed_c (ea_cons ed_c (ea_cons ed_c (ea_cons ed_c ea_nil)))))) rfl) (ea_cons (ed_tup (ea_cons ed_c (ea_cons ed_c (ea_cons ed_c (ea_cons ed_c (ea_cons ed_c (ea_cons ed_c ea_nil)))))) rfl) (ea_cons (ed_tup (ea_cons ed_c (ea_cons ed_c (ea_cons ed_c (ea_cons ed_c (ea_cons ed_c (ea_cons ed_c ea_nil)))))) rfl) ea_nil))) rfl)
          (fun j s' δ' => s' = ⟨s.n, (D, ((bf (3 * k + j)).map tupD).map .dat) :: s.own⟩ ∧ ∃ x y, δ' = [.val (.ref D), .dat (.int (k : Int)), x, y]) ⟨rfl, x, y, rfl⟩ ?_ (fun s' δ' h => h)
        rintro j d s' δ' hd ⟨rfl, x, y, rfl⟩
        rw [List.getElem?_map] at hd
        obtain ⟨q, hq, rfl⟩ := Option.map_eq_some_iff.mp hd
        have hj : j < 3 := (List.getElem?_eq_some_iff.mp hq).1
        have e3 : (3 * k + j) / 3 = k := by omega
        have e4 : (3 * k + j) % 3 = j := by omega
        obtain ⟨ba, bt, bl⟩ := bf_at (3 * k + j) (by omega)
        rw [e3] at ba bt
        have hqt : q ∈ TURNS := quart_ok q (List.mem_of_getElem? hq)
        have hqd : QUARTS.getD j [] = q := by rw [List.getD_eq_getElem?_getD, hq]; rfl
        have bs : bf (3 * k + (j + 1)) = if thenL ((bf (3 * k + j)).getD k []) q ∈ bf (3 * k + j) then bf (3 * k + j) else bf (3 * k + j) ++ [thenL ((bf (3 * k + j)).getD k []) q] := by
          show bf (3 * k + j + 1) = _
          rw [bf, e3, e4, hqd]
        refine sd_asgI (ed_callE (ea_cons (ed_op (ed_var rfl) (ed_var rfl) (od_ixOwn (x := .dat (tupD ((bf (3 * k + j)).getD k []))) (atI_nat (by rw [List.getElem?_map, List.getElem?_map, ba]; rfl)))) (ea_cons (ed_var rfl) ea_nil)) ⟨_, q, turn_ok _ bt q hqt, by rw [turn_len _ bt]; decide, rfl⟩ fun y r => r _ _ rfl) ?_
        refine sd_if (et_test (ed_op (ed_var rfl) (ed_var rfl) (od_notInOwn (shaped_tup _) (shaped_tups _)))) (fun s1 h => ?_) (fun s1 h => ?_)
        · obtain ⟨rfl, h⟩ := h
          rw [any_tup] at h
          have hn : ¬ thenL ((bf (3 * k + j)).getD k []) q ∈ bf (3 * k + j) := by simpa using h.symm
          rw [if_neg hn] at bs
          refine sd_app rfl (ed_var rfl) (by rw [List.length_map, List.length_map]; omega) ⟨?_, _, _, rfl⟩
          rw [bs, List.map_append, List.map_append]
          rfl
        · obtain ⟨rfl, h⟩ := h
          rw [any_tup] at h
          have hn : thenL ((bf (3 * k + j)).getD k []) q ∈ bf (3 * k + j) := by simpa using h.symm
          rw [if_pos hn] at bs
          refine sd_next ⟨?_, _, _, rfl⟩
          rw [bs]
      · obtain ⟨rfl, x, y, rfl⟩ := h
        refine sd_asg (ed_op (ed_var rfl) ed_c od_I0) fun s' z hz => ?_
        obtain ⟨rfl, rfl⟩ := hz
        exact ⟨24 - (k + 1), by omega, k + 1, by omega, rfl, rfl, x, y, rfl⟩
    · have hk2 : k = 24 := by
        have : ¬ k < 24 := by simpa using hb
        omega
      subst hk2
      exact ⟨rfl, x, y, rfl⟩
  · obtain ⟨rfl, x, y, rfl⟩ := h
    refine sd_ret (P := fun s' x => x = .dat (.list (TURNS.map tupD))) (ed_cb (ea_cons (ed_var rfl) ea_nil) (cd_sortOwn (by rw [bf_end.1]; decide) (fun a ha => turns_bd a (bf_end.2 a ha)) fun x h => ?_)) fun s' x h => h
    obtain ⟨L', p, o, rfl⟩ := h
    rw [sorted_one (p.trans bf_perm) o turns_up]
theorem ok__law_mixed {f : Addr} {fd : FuncData} (F : Fun K "_law_mixed" "_law_mixed" s__law_mixed f fd) {f__law_draw : Addr} {fd__law_draw : FuncData} (G__law_draw : FnOk P w K mg base CX0 1 f__law_draw fd__law_draw ["_law_purse_here", "_law_out_of"] spDraw) (m__law_draw : mg "_law_draw" = some (.ref f__law_draw)) (k__law_draw : PySem.W.keepIn K (.ref f__law_draw) = true) (b__law_draw : Binds K fd__law_draw ["_law_purse_here", "_law_out_of"] []) (m_len : mg "len" = none) (m_list : mg "list" = none) : FnOk P w K mg base CX0 2 f fd ["_law_purse_here", "_law_some"] (spU K aMixed fMixed) := by
  refine F.ok sc__law_mixed (spU_len (n := 2) (fun m es h => by obtain ⟨ds, h1000, hn, hsh, rfl⟩ := h; rfl)) (fun cdv A outer s H vs Q E hr h => ?_)
  have hu := hr.units
  have hu5 := hu5_of hr
  refine ⟨_, (pss_cons (ps_set (i := 2) sc__law_mixed.nd rfl (Or.inl rfl) (pe_callTy call_list_of (by rfl) m_list (by decide +kernel) (pa_cons (pv 1) pa_nil)))
        (pss_cons (ps_set (i := 3) sc__law_mixed.nd rfl (Or.inl rfl) (pe_lst pa_nil))
        (pss_cons (ps_while PassesOwn.never (pt_cmpR (op_neD hu) (pv 2) (pe_lst pa_nil) (nomark _)) (pss_one (ps_expr (pe_bm PySem.F.plainAttrs_list PySem.F.slot_list_append PySem.F.type_list_append mt_append (pv 3) (pa_cons (pe_bm PySem.F.plainAttrs_list PySem.F.slot_list_pop PySem.F.type_list_pop mt_popAt (pv 2) (pa_cons (pe_call G__law_draw (hr.mono (by decide)) (by rfl) m__law_draw k__law_draw b__law_draw .nil pass0 (pa_cons (pv 0) (pa_cons (pe_callB call_len_seq (by rfl) m_len (by decide +kernel) (pa_cons (pv 2) pa_nil)) pa_nil))) pa_nil)) pa_nil)))))
        (pss_one (ps_ret (pv 3)))))), run_purse h fun f p c n es hf ha => ?_⟩
  obtain ⟨ds, h1000, hn, hsh, rfl⟩ := ha
  refine sd_listNew (ds := ds) (ed_var rfl) (.inl rfl) fun L => ?_
  refine sd_ownNew (es := []) ea_nil (by decide) fun D => ?_
  refine sd_seq (M := fun s' δ' => ∃ rs : List PyData, rs.Perm ds ∧ s' = ⟨n - ds.length, [(D, rs.map .dat), (L, [])]⟩ ∧ δ' = [.val (.ref p), .dat (.list ds), .val (.ref L), .val (.ref D)]) ?_ fun s' δ' h => ?_
  · refine sd_while (fun m s' δ' => ∃ ls rs : List PyData, m = ls.length ∧ (rs ++ ls).Perm ds ∧ s' = ⟨n - rs.length, [(D, rs.map .dat), (L, ls.map .dat)]⟩ ∧ δ' = [.val (.ref p), .dat (.list ds), .val (.ref L), .val (.ref D)]) ds.length ⟨ds, [], rfl, .refl _, rfl, rfl⟩ ?_
    rintro m s' δ' ⟨ls, rs, rfl, hp, rfl, rfl⟩
    have hlen : rs.length + ls.length = ds.length := by have := hp.length_eq; rw [List.length_append] at this; exact this
    have hsl : SeqAt.shaped (.list ls) = true := shaped_all fun d hd => hsh d (hp.mem_iff.mp (List.mem_append_right _ hd))
    refine ⟨!ls.isEmpty, et_is (et_test (ed_op (ed_var rfl) (ed_lst ea_nil rfl) (od_neOwnM (List.mem_cons_of_mem _ (List.mem_cons_self ..)) rfl hsl))) ?_, fun hb => ?_, fun hb => ?_⟩
    · cases ls with
      | nil => rfl
      | cons a b => rfl
    · have hpos : 0 < ls.length := by
        cases ls with
        | nil => cases hb
        | cons a b => exact Nat.succ_pos _
      obtain ⟨k, hk⟩ : ∃ k, n - rs.length = k + 1 := ⟨n - rs.length - 1, by omega⟩
      rw [hk]
      refine sd_appN rfl (P := fun s' x => ∃ (j : Nat) (d : PyData), ls[j]? = some d ∧ x = .dat d ∧ s' = ⟨k, [(D, rs.map .dat), (L, (ls.eraseIdx j).map .dat)]⟩) ?_ ?_
      · refine ed_swap (ed_post (P := fun s' x => ∃ (j : Nat) (d : PyData), ls[j]? = some d ∧ x = .dat d ∧ s' = ⟨k, [(L, (ls.eraseIdx j).map .dat), (D, rs.map .dat)]⟩) (ed_popOwn rfl (ed_draw (m := ls.length) hf rfl (ed_is (ed_cb (ea_cons (ed_var rfl) ea_nil) (cd_lenOwnM (List.mem_cons_self ..))) (by rw [List.length_map])) (by omega) (Int.le_trans (show (ls.length : Int) ≤ 1000 by omega) (by decide +kernel))) (by rw [List.length_map]; omega) ?_) ?_)
        · rintro s' x ⟨rfl, r, r0, r1, rfl⟩
          have hj : r.toNat < ls.length := by omega
          refine ⟨k, r.toNat, .dat ls[r.toNat], rfl, by rw [Int.toNat_of_nonneg r0], by rw [List.getElem?_map, List.getElem?_eq_getElem hj]; rfl, r.toNat, ls[r.toNat], List.getElem?_eq_getElem hj, rfl, ?_⟩
          have er : ∀ (l : List PyData) (j : Nat), (l.map En.dat).eraseIdx j = (l.eraseIdx j).map En.dat := by
            intro l
            induction l with
            | nil => intro j; rfl
            | cons a l ih =>
              intro j
              cases j with
              | zero => rfl
              | succ j => show En.dat a :: _ = En.dat a :: _; rw [ih]
          rw [er]
        · rintro s' x ⟨j, d, hj, rfl, rfl⟩
          exact ⟨k, _, _, [], rfl, j, d, hj, rfl, rfl⟩
      · rintro s' x ⟨j, d, hj, rfl, rfl⟩
        refine ⟨k, rs.map .dat, [(L, (ls.eraseIdx j).map .dat)], rfl, by rw [List.length_map]; omega, ls.length - 1, by omega, ls.eraseIdx j, rs ++ [d], ?_, ?_, ?_, rfl⟩
        · have hj' : j < ls.length := (List.getElem?_eq_some_iff.mp hj).1
          rw [List.length_eraseIdx, if_pos hj']
        · have hj' : j < ls.length := (List.getElem?_eq_some_iff.mp hj).1
          have pe : ls.Perm (d :: ls.eraseIdx j) := erase_perm hj
          rw [List.append_assoc]
          exact (List.Perm.append_left rs pe.symm).trans hp
        · rw [List.length_append, List.map_append]
          have : n - (rs.length + [d].length) = k := by show n - (rs.length + 1) = k; omega
          rw [this]
          rfl
    · have hnil : ls = [] := by
        cases ls with
        | nil => rfl
        | cons a b => cases hb
      subst hnil
      rw [List.append_nil] at hp
      refine ⟨rs, hp, ?_, rfl⟩
      rw [hp.length_eq]
      rfl
  · obtain ⟨rs, hp, rfl, rfl⟩ := h
    refine sd_ret (ed_ownEnd rfl) ?_
    rintro s' x ⟨rfl, rfl⟩ ds' e
    cases e
    exact ⟨Nat.sub_add_cancel hn, rs, hp, rfl⟩
theorem ok__law_coat {f : Addr} {fd : FuncData} (F : Fun K "_law_coat" "_law_coat" s__law_coat f fd) {f__law_draw : Addr} {fd__law_draw : FuncData} (G__law_draw : FnOk P w K mg base CX0 1 f__law_draw fd__law_draw ["_law_purse_here", "_law_out_of"] spDraw) (m__law_draw : mg "_law_draw" = some (.ref f__law_draw)) (k__law_draw : PySem.W.keepIn K (.ref f__law_draw) = true) (b__law_draw : Binds K fd__law_draw ["_law_purse_here", "_law_out_of"] []) {f__law_mixed : Addr} {fd__law_mixed : FuncData} (G__law_mixed : FnOk P w K mg base CX0 2 f__law_mixed fd__law_mixed ["_law_purse_here", "_law_some"] (spU K aMixed fMixed)) (m__law_mixed : mg "_law_mixed" = some (.ref f__law_mixed)) (k__law_mixed : PySem.W.keepIn K (.ref f__law_mixed) = true) (b__law_mixed : Binds K fd__law_mixed ["_law_purse_here", "_law_some"] []) (m_list : mg "list" = none) (m_range : mg "range" = none) (m_tuple : mg "tuple" = none) : FnOk P w K mg base CX0 3 f fd ["_law_purse_here"] (spU K aCoat fCoatB) := by
  refine F.ok sc__law_coat (spU_len (n := 1) (fun m es h => by obtain ⟨hn, rfl⟩ := h; rfl)) (fun cdv A outer s H vs Q E hr h => ?_)
  have hu := hr.units
  have hu5 := hu5_of hr
  refine ⟨_, (pss_cons (ps_set (i := 1) sc__law_coat.nd rfl (Or.inr rfl) (pe_ix ix_seq (pe_lst (pa_cons pe_int (pa_cons pe_int (pa_cons pe_int (pa_cons pe_int (pa_cons pe_int pa_nil)))))) (pe_call G__law_draw (hr.mono (by decide)) (by rfl) m__law_draw k__law_draw b__law_draw .nil pass0 (pa_cons (pv 0) (pa_cons pe_int pa_nil))) (fun _ _ => rfl)))
        (pss_cons (ps_set (i := 2) sc__law_coat.nd rfl (Or.inl rfl) (pe_callTy call_tupleF (by rfl) m_tuple (by decide +kernel) (pa_cons (pe_lc (te := (tCall spDraw [] E0 (tCons (tVar 0) (tCons (tVar 1) tNil)))) (own := [("_law_side", 4)]) (g := gName 4) rfl sc__law_coat.nd (pi_range1 (by rfl) m_range (pa_cons pe_int pa_nil)) (blkOk_by (own := [("_law_side", 4)]) (N := N__law_coat) (sc := defScope s__law_coat) (by decide +kernel)) (fun _ _ _ _ _ => pg_name (i := 4) sc__law_coat.nd rfl (Or.inl rfl)) (fun _ _ _ _ _ => pts_nil) (fun _ _ _ _ _ => (pe_call G__law_draw (hr.mono (by decide)) (by rfl) m__law_draw k__law_draw b__law_draw .nil pass0 (pa_cons (pv 0) (pa_cons (pv 1) pa_nil))))) pa_nil)))
        (pss_cons (ps_set (i := 3) sc__law_coat.nd rfl (Or.inl rfl) (pe_call G__law_draw (hr.mono (by decide)) (by rfl) m__law_draw k__law_draw b__law_draw .nil pass0 (pa_cons (pv 0) (pa_cons pe_int pa_nil))))
        (pss_cons (ps_if (pt_cmpR (op_eqD hu) (pv 3) pe_int (nomark _)) (pss_one (ps_set (i := 2) sc__law_coat.nd rfl (Or.inl rfl) (pe_callTy call_tupleF (by rfl) m_tuple (by decide +kernel) (pa_cons (pe_call G__law_mixed (hr.mono (by decide)) (by rfl) m__law_mixed k__law_mixed b__law_mixed .nil pass0 (pa_cons (pv 0) (pa_cons (pe_listRg rfl (by rfl) m_list (prg_1 (by rfl) m_range pe_int)) pa_nil))) pa_nil)))) pss_nil)
        (pss_cons (ps_if (pt_cmpR (op_eqD hu) (pv 3) pe_int (nomark _)) (pss_one (ps_set (i := 2) sc__law_coat.nd rfl (Or.inl rfl) (pe_callTy call_tupleF (by rfl) m_tuple (by decide +kernel) (pa_cons (pe_lc (own := [("_law_tone", 5)]) (g := gName 5) rfl sc__law_coat.nd (pi_tup (pv 2)) (blkOk_by (own := [("_law_tone", 5)]) (N := N__law_coat) (sc := defScope s__law_coat) (by decide +kernel)) (fun _ _ _ _ _ => pg_name (i := 5) sc__law_coat.nd rfl (Or.inl rfl)) (fun _ _ _ _ _ => pts_nil) (fun _ _ _ _ _ => (pe_op op_add (pe_op op_mul (pv 5) (pe_op op_powX pe_int pe_int)) (pe_call G__law_draw (hr.mono (by decide)) (by rfl) m__law_draw k__law_draw b__law_draw .nil pass0 (pa_cons (pv 0) (pa_cons pe_int pa_nil)))))) pa_nil)))) pss_nil)
        (pss_one (ps_ret (pv 2)))))))), run_purse h fun f p c n es hf ha => ?_⟩
  obtain ⟨hn, rfl⟩ := ha
  obtain ⟨n, rfl⟩ : ∃ m, n = m + 16 := ⟨n - 16, by omega⟩
  refine sd_asgS (P := fun s' x => s' = ⟨n + 15, []⟩ ∧ ∃ i : Int, 1 ≤ i ∧ i ≤ 110 ∧ x = .dat (.int i)) (ed_imp (ed_pick (L := [.int 1, .int 2, .int 3, .int 12, .int 110]) hf rfl (ed_lst (ea_cons ed_c (ea_cons ed_c (ea_cons ed_c (ea_cons ed_c (ea_cons ed_c ea_nil))))) rfl) rfl (by decide) (by decide)) ?_) ?_
  · rintro s' x ⟨rfl, d, hd, rfl⟩
    refine ⟨rfl, ?_⟩
    simp only [List.mem_cons, List.not_mem_nil, or_false] at hd
    rcases hd with rfl | rfl | rfl | rfl | rfl
    · exact ⟨1, by decide, by decide, rfl⟩
    · exact ⟨2, by decide, by decide, rfl⟩
    · exact ⟨3, by decide, by decide, rfl⟩
    · exact ⟨12, by decide, by decide, rfl⟩
    · exact ⟨110, by decide, by decide, rfl⟩
  rintro s' x ⟨rfl, i, i1, i2, rfl⟩
  refine sd_asgS (P := fun s' x => s' = ⟨n + 9, []⟩ ∧ ∃ ns : List Int, ns.length = 6 ∧ (∀ a ∈ ns, 0 ≤ a ∧ a < 110) ∧ x = .dat (tupD ns)) (ed_tupleN (L := fun s' rs => s' = ⟨n + 9, []⟩ ∧ ∃ ns : List Int, ns.length = 6 ∧ (∀ a ∈ ns, 0 ≤ a ∧ a < 110) ∧ rs = ns.map .int) (ed_imp (ed_lcRN (n := n + 9) (c := 1) (m := 6) (w := []) (Pe := fun _ r => ∃ a : Int, r = .int a ∧ 0 ≤ a ∧ a < 110) (ea_cons ed_c ea_nil) (by decide) (fun d _ k w' => ed_imp (ed_draw hf rfl (ed_var rfl) i1 (Int.le_trans (show i ≤ 1000 by omega) (by decide +kernel))) ?_)) ?_) ?_) ?_
  · rintro s' x ⟨rfl, r, r0, r1, rfl⟩
    exact ⟨rfl, _, rfl, r, rfl, r0, by omega⟩
  · rintro s' x ⟨rfl, rs, hp, rfl⟩
    obtain ⟨ns, h1, h2, h3⟩ := paired_ints (Q := fun a => 0 ≤ a ∧ a < 110) (fun _ r h => h) hp
    exact ⟨rs, rfl, rfl, ns, by rw [h1, rngD_len], h3, h2⟩
  · rintro s' rs ⟨rfl, ns, h1, h2, rfl⟩
    exact ⟨rfl, ns, h1, h2, rfl⟩
  rintro s' x ⟨rfl, ns, hl, hb, rfl⟩
  refine sd_asgS (P := Drawn (n + 8) [] 6) (ed_drawC hf rfl (by decide) (by decide)) ?_
  rintro s' x ⟨rfl, r, _, _, rfl⟩
  refine sd_ifS (et_test (ed_op (ed_var rfl) ed_c (od_eqD rfl rfl))) (fun s1 q => ?_) (fun s1 q => ?_)
  · obtain ⟨rfl, q⟩ := q
    have hr0 : r = 0 := by simpa [PyData.eqv] using q.symm
    subst hr0
    refine sd_asg (P := fun s' x => s' = ⟨n + 2, []⟩ ∧ ∃ ns, PAB ns ∧ x = .dat (tupD ns)) (ed_tupleN (L := fun s' rs => s' = ⟨n + 2, []⟩ ∧ ∃ ns : List Int, PAB ns ∧ rs = ns.map .int) (ed_callU hf rfl (ea_one (ed_listRg (m := 6) ed_c (by decide))) ?_) ?_) ?_
    · rintro s' es ⟨x, rfl, rfl, rfl⟩
      refine ⟨n + 8, [], rfl, ⟨rngD 6, by decide, by rw [rngD_len]; omega, by decide +kernel, rfl⟩, fun m x h => ?_⟩
      obtain ⟨h1, rs, hp, rfl⟩ := h _ rfl
      rw [rngD_len] at h1
      obtain ⟨ms, p1, p2⟩ := perm_ints hp (ns := [0, 1, 2, 3, 4, 5]) rfl
      have hm : m = n + 2 := by omega
      subst hm
      refine ⟨rs, rfl, rfl, ms, ⟨p1.length_eq, fun i hi => ?_⟩, p2⟩
      have := p1.mem_iff.mp hi
      simp only [List.mem_cons, List.not_mem_nil, or_false] at this
      exact ⟨by omega, Int.lt_of_lt_of_le (show i < 6 by omega) (by decide +kernel)⟩
    · rintro s' rs ⟨rfl, ns, hp, rfl⟩
      exact ⟨rfl, ns, hp, rfl⟩
    · rintro s' x ⟨rfl, ms, hp, rfl⟩
      refine sd_whenX (et_test (ed_op (ed_var rfl) ed_c (od_eqD rfl rfl))) (fun s1 q => by obtain ⟨_, q⟩ := q; cases q) (fun s1 q => ?_)
      obtain ⟨rfl, _⟩ := q
      exact sd_retI (ed_var rfl) ⟨by show n + 16 ≤ n + 2 + 16; omega, ms, hp, rfl⟩
  · obtain ⟨rfl, q⟩ := q
    refine sd_next ?_
    refine sd_ifS (et_test (ed_op (ed_var rfl) ed_c (od_eqD rfl rfl))) (fun s1 q => ?_) (fun s1 q => ?_)
    · obtain ⟨rfl, _⟩ := q
      have h6 : (ns.map PyData.int).length = 6 := by rw [List.length_map, hl]
      refine sd_asg (P := fun s' x => s' = ⟨n + 2, []⟩ ∧ ∃ ns, PAB ns ∧ x = .dat (tupD ns)) (ed_tupleN (L := fun s' rs => s' = ⟨n + 2, []⟩ ∧ ∃ ns : List Int, PAB ns ∧ rs = ns.map .int) (ed_imp (ed_stateE (ed_lcTN (n := n + 2) (c := 1) (w := []) (ds := ns.map .int) (Pe := fun _ r => ∃ a : Int, r = .int a ∧ 0 ≤ a ∧ a < 2 ^ 200) (ed_var rfl) (by rw [h6]; decide) (fun d hd k w' => ?_)) (by rw [h6])) ?_) ?_) ?_
      · obtain ⟨a, ha, rfl⟩ := List.mem_map.mp hd
        have hab := hb a ha
        refine ed_opN (P := Is ⟨k + 1, w'⟩ (.dat (.int (a * 10 ^ 27)))) (P2 := fun _ _ => Drawn k w' 2) (ed_op (ed_var rfl) (ed_op ed_c ed_c (od_I ⟨by decide, by decide +kernel⟩)) (od_I (.inl ⟨by omega, by omega⟩))) (fun s1 x q => by obtain ⟨rfl, rfl⟩ := q; exact ed_drawC hf rfl (by decide) (by decide)) ?_
        rintro s1 x s2 y ⟨rfl, rfl⟩ ⟨rfl, r, r0, r1, rfl⟩
        intro G H v u Q jj a1 b1 k1
        refine od_I0 G H v u Q jj a1 b1 fun w2 z s' G2 H2 e1 j1 o1 p1 => k1 w2 z s' G2 H2 e1 j1 o1 ?_
        obtain ⟨rfl, rfl⟩ := p1
        exact ⟨rfl, .int (a * 10 ^ 27 + r), rfl, _, rfl, by omega, Int.lt_of_lt_of_le (show a * 10 ^ 27 + r < 110 * 10 ^ 27 + 2 by omega) (by decide +kernel)⟩
      · rintro s' x ⟨rfl, rs, hp, rfl⟩
        obtain ⟨ms, h1, h2, h3⟩ := paired_ints (Q := fun a => 0 ≤ a ∧ a < 2 ^ 200) (fun _ r h => h) hp
        exact ⟨rs, rfl, rfl, ms, ⟨by rw [h1, h6], h3⟩, h2⟩
      · rintro s' rs ⟨rfl, ns, hp, rfl⟩
        exact ⟨rfl, ns, hp, rfl⟩
      · rintro s' x ⟨rfl, ms, hp, rfl⟩
        exact sd_retI (ed_var rfl) ⟨by show n + 16 ≤ n + 2 + 16; omega, ms, hp, rfl⟩
    · obtain ⟨rfl, _⟩ := q
      refine sd_next ?_
      exact sd_retI (ed_var rfl) ⟨by show n + 16 ≤ n + 8 + 16; omega, ns, ⟨hl, fun i hi => ⟨(hb i hi).1, Int.lt_of_lt_of_le (hb i hi).2 (by decide +kernel)⟩⟩, rfl⟩
theorem ok__law_bent {f : Addr} {fd : FuncData} (F : Fun K "_law_bent" "_law_bent" s__law_bent f fd) {f__law_draw : Addr} {fd__law_draw : FuncData} (G__law_draw : FnOk P w K mg base CX0 1 f__law_draw fd__law_draw ["_law_purse_here", "_law_out_of"] spDraw) (m__law_draw : mg "_law_draw" = some (.ref f__law_draw)) (k__law_draw : PySem.W.keepIn K (.ref f__law_draw) = true) (b__law_draw : Binds K fd__law_draw ["_law_purse_here", "_law_out_of"] []) (m_list : mg "list" = none) : FnOk P w K mg base CX0 2 f fd ["_law_purse_here", "_law_coat_here"] (spU K aBentC fBentC) := by
  refine F.ok sc__law_bent (spU_len (n := 2) (fun m es h => by obtain ⟨hn, t, ht, rfl⟩ := h; rfl)) (fun cdv A outer s H vs Q E hr h => ?_)
  have hu := hr.units
  have hu5 := hu5_of hr
  refine ⟨_, (pss_cons (ps_set (i := 2) sc__law_bent.nd rfl (Or.inl rfl) (pe_call G__law_draw (hr.mono (by decide)) (by rfl) m__law_draw k__law_draw b__law_draw .nil pass0 (pa_cons (pv 0) (pa_cons pe_int pa_nil))))
        (pss_cons (ps_set (i := 3) sc__law_bent.nd rfl (Or.inl rfl) (pe_call G__law_draw (hr.mono (by decide)) (by rfl) m__law_draw k__law_draw b__law_draw .nil pass0 (pa_cons (pv 0) (pa_cons pe_int pa_nil))))
        (pss_cons (ps_if (pt_cmpR (op_eqD hu) (pv 2) pe_int (nomark _)) (pss_cons (ps_set (i := 4) sc__law_bent.nd rfl (Or.inl rfl) (pe_lst (pa_cons (pe_un un_neg pe_int) (pa_cons pe_bl (pa_cons pe_bl (pa_cons pe_non (pa_cons pe_str (pa_cons (pe_lst (pa_cons pe_int pa_nil)) (pa_cons (pe_tupF (pa_cons pe_int pa_nil)) (pa_cons pe_str (pa_cons (pe_un un_neg (pe_op op_powX pe_int pe_int)) (pa_cons (pe_lst (pa_cons (pe_ix ix_seq (pv 1) (pv 3) (fun _ _ => rfl)) pa_nil)) (pa_cons (pe_tupF (pa_cons (pe_ix ix_seq (pv 1) (pv 3) (fun _ _ => rfl)) pa_nil)) pa_nil)))))))))))))
        (pss_one (ps_ret (pe_op op_catF (pe_op op_catF (pe_slice sl_tupF (pv 1) po_none (po_some (pv 3))) (pe_tupF (pa_cons (pe_ix ix_seq (pv 4) (pe_call G__law_draw (hr.mono (by decide)) (by rfl) m__law_draw k__law_draw b__law_draw .nil pass0 (pa_cons (pv 0) (pa_cons pe_int pa_nil))) (fun _ _ => rfl)) pa_nil))) (pe_slice sl_tupF (pv 1) (po_some (pe_op op_add (pv 3) pe_int)) po_none))))) pss_nil)
        (pss_cons (ps_if (pt_cmpR (op_eqD hu) (pv 2) pe_int (nomark _)) (pss_one (ps_ret (pe_ix ix_seq (pe_lst (pa_cons (pe_slice sl_tupF (pv 1) po_none (po_some (pv 3))) (pa_cons (pe_op op_catF (pv 1) (pe_tupF (pa_cons (pe_ix ix_seq (pv 1) (pv 3) (fun _ _ => rfl)) pa_nil))) (pa_cons (pe_op op_catF (pe_slice sl_tupF (pv 1) po_none (po_some (pv 3))) (pe_slice sl_tupF (pv 1) (po_some (pe_op op_add (pv 3) pe_int)) po_none)) pa_nil)))) (pe_call G__law_draw (hr.mono (by decide)) (by rfl) m__law_draw k__law_draw b__law_draw .nil pass0 (pa_cons (pv 0) (pa_cons pe_int pa_nil))) (fun _ _ => rfl)))) pss_nil)
        (pss_cons (ps_if (pt_cmpR (op_eqD hu) (pv 2) pe_int (nomark _)) (pss_cons (ps_set (i := 5) sc__law_bent.nd rfl (Or.inl rfl) (pe_lst (pa_cons (pe_callTy call_list_of (by rfl) m_list (by decide +kernel) (pa_cons (pv 1) pa_nil)) (pa_cons pe_non (pa_cons pe_str (pa_cons pe_int (pa_cons pe_bl (pa_cons (pe_lst pa_nil) (pa_cons (pe_tupF pa_nil) (pa_cons (pe_lst (pa_cons (pv 1) pa_nil)) (pa_cons (pe_tupF (pa_cons (pv 1) pa_nil)) (pa_cons pe_str (pa_cons (pe_tupF (pa_cons (pe_tupF (pa_cons pe_int (pa_cons pe_int pa_nil))) (pa_cons (pe_tupF (pa_cons pe_int (pa_cons pe_int pa_nil))) (pa_cons (pe_tupF (pa_cons pe_int (pa_cons pe_int pa_nil))) pa_nil)))) pa_nil)))))))))))))
        (pss_one (ps_ret (pe_ix ix_seq (pv 5) (pe_call G__law_draw (hr.mono (by decide)) (by rfl) m__law_draw k__law_draw b__law_draw .nil pass0 (pa_cons (pv 0) (pa_cons pe_int pa_nil))) (fun _ _ => rfl))))) pss_nil)
        (pss_one (ps_ret (pv 1)))))))), run_purse h fun f p c n es hf ha => ?_⟩
  obtain ⟨hn, t, ht, rfl⟩ := ha
  obtain ⟨n, rfl⟩ : ∃ m, n = m + 3 := ⟨n - 3, by omega⟩
  have t6 := ht.1
  have finN : ∀ {f s te δ}, ED K f s te δ (fun s' x => n ≤ s'.n ∧ ∃ d, okN 3 d = true ∧ x = .dat d) → SD K f s (tRet te) δ ⟨fun _ _ => False, fun s' x => fBentC (n + 3) [.dat (tupD t)] s'.n x, fun _ _ => False, fun _ _ => False⟩ := fun h => sd_ret h fun s' x q => ⟨by omega, q.2⟩
  refine sd_asgS (P := Drawn (n + 2) [] 6) (ed_drawC hf rfl (by decide) (by decide)) ?_
  rintro s1 x ⟨rfl, w, _, _, rfl⟩
  refine sd_asgS (P := Drawn (n + 1) [] 6) (ed_drawC hf rfl (by decide) (by decide)) ?_
  rintro s1 x ⟨rfl, a, a0, a1, rfl⟩
  obtain ⟨ia, hia, ei⟩ := at_coat ht a0 a1
  have hib := ht.2 ia hia
  -- 0: a side another thing
  refine sd_when (et_test (ed_op (ed_var rfl) ed_c (od_eqD rfl rfl))) (fun s1 q => ?_) (fun s1 q => ?_)
  · obtain ⟨rfl, _⟩ := q
    refine sd_asgI (ed_lst (ea_cons (ed_un ed_c ud_neg) (ea_cons ed_c (ea_cons ed_c (ea_cons ed_c (ea_cons ed_c (ea_cons (ed_lst (ea_cons ed_c ea_nil) rfl) (ea_cons (ed_tup (ea_cons ed_c ea_nil) rfl) (ea_cons ed_c (ea_cons (ed_un (ed_op ed_c ed_c (od_I ⟨by decide, by decide +kernel⟩)) ud_neg) (ea_cons (ed_lst (ea_cons (ed_op (ed_var rfl) (ed_var rfl) (od_ix (.inr rfl) ei)) ea_nil) rfl) (ea_cons (ed_tup (ea_cons (ed_op (ed_var rfl) (ed_var rfl) (od_ix (.inr rfl) ei)) ea_nil) rfl) ea_nil))))))))))) rfl) ?_
    refine finN (ed_opN (P := fun s' x => s' = ⟨n, []⟩ ∧ ∃ ds, (∀ d ∈ ds, okN 2 d = true) ∧ ds.length ≤ 7 ∧ x = .dat (.tuple ds)) (P2 := fun _ _ => Is ⟨n, []⟩ (.dat (.tuple (cutD (t.map .int) (some (a + 1)) none)))) (ed_opN (P := Is ⟨n + 1, []⟩ (.dat (.tuple (cutD (t.map .int) none (some a))))) (P2 := fun _ _ s' x => s' = ⟨n, []⟩ ∧ ∃ d, okN 2 d = true ∧ x = .dat (.tuple [d])) (ed_slO (ed_var rfl) eo_none (eo_some (ed_var rfl))) (fun s1 x q => ?_) ?_) (fun s1 x q => ?_) ?_)
    · obtain ⟨rfl, rfl⟩ := q
      refine ed_tupN (ea_one (ed_pick hf rfl (ed_var rfl) rfl (by decide) (by decide))) ?_
      rintro s' es ⟨x, rfl, rfl, d, hd, rfl⟩
      refine ⟨[d], rfl, Nat.le_of_ble_eq_true rfl, rfl, d, ?_, rfl⟩
      simp only [List.mem_cons, List.not_mem_nil, or_false] at hd
      rcases hd with rfl | rfl | rfl | rfl | rfl | rfl | rfl | rfl | rfl | rfl | rfl
      · decide +kernel
      · decide +kernel
      · decide +kernel
      · decide +kernel
      · decide +kernel
      · decide +kernel
      · decide +kernel
      · decide +kernel
      · decide +kernel
      · exact okN_lst (Nat.le_of_ble_eq_true rfl) fun d hd => by rw [List.mem_singleton.mp hd]; exact okN_b hib
      · exact okN_tup (Nat.le_of_ble_eq_true rfl) fun d hd => by rw [List.mem_singleton.mp hd]; exact okN_b hib
    · rintro s1 x s2 y ⟨rfl, rfl⟩ ⟨rfl, d, hd, rfl⟩
      intro G H v u Q jj o1 o2 k
      have hc := cut_okC ht none (some a)
      refine od_catF (by have := hc.2; show _ + 1 ≤ 100000; omega) G H v u Q jj o1 o2 fun w2 z s' G2 H2 e1 j1 o3 p1 => k w2 z s' G2 H2 e1 j1 o3 ?_
      obtain ⟨rfl, rfl⟩ := p1
      refine ⟨rfl, _, fun d' hd' => ?_, by rw [List.length_append]; have := hc.2; show _ + 1 ≤ 7; omega, rfl⟩
      rcases List.mem_append.mp hd' with h | h
      · exact okN_mono (hc.1 d' h)
      · rw [List.mem_singleton.mp h]; exact hd
    · obtain ⟨rfl, _⟩ := q
      exact ed_slO (ed_var rfl) (eo_some (ed_op (ed_var rfl) ed_c od_I0)) eo_none
    · rintro s1 x s2 y ⟨rfl, ds, h1, h2, rfl⟩ ⟨rfl, rfl⟩
      intro G H v u Q jj o1 o2 k
      have hc := cut_okC ht (some (a + 1)) none
      refine od_catF (by have := hc.2; omega) G H v u Q jj o1 o2 fun w2 z s' G2 H2 e1 j1 o3 p1 => k w2 z s' G2 H2 e1 j1 o3 ?_
      obtain ⟨rfl, rfl⟩ := p1
      refine ⟨Nat.le_refl _, _, okN_tup (by rw [List.length_append]; have := hc.2; omega) fun d' hd' => ?_, rfl⟩
      rcases List.mem_append.mp hd' with h | h
      · exact h1 d' h
      · exact okN_mono (hc.1 d' h)
  obtain ⟨rfl, _⟩ := q
  -- 1: fewer or more
  refine sd_when (et_test (ed_op (ed_var rfl) ed_c (od_eqD rfl rfl))) (fun s1 q => ?_) (fun s1 q => ?_)
  · obtain ⟨rfl, _⟩ := q
    have hc := cut_okC ht none (some a)
    have hc2 := cut_okC ht (some (a + 1)) none
    refine finN (ed_imp (ed_pick (L := [.tuple (cutD (t.map PyData.int) none (some a)), .tuple (t.map PyData.int ++ [.int ia]), .tuple (cutD (t.map PyData.int) none (some a) ++ cutD (t.map PyData.int) (some (a + 1)) none)]) hf rfl (ed_lst (ea_cons (ed_slO (ed_var rfl) eo_none (eo_some (ed_var rfl))) (ea_cons (ed_op (ed_var rfl) (ed_tup (ea_cons (ed_op (ed_var rfl) (ed_var rfl) (od_ix (.inr rfl) ei)) ea_nil) rfl) (od_catF (by rw [List.length_map, t6]; exact Nat.le_of_ble_eq_true rfl))) (ea_cons (ed_op (ed_slO (ed_var rfl) eo_none (eo_some (ed_var rfl))) (ed_slO (ed_var rfl) (eo_some (ed_op (ed_var rfl) ed_c od_I0)) eo_none) (od_catF (by have := hc.2; have := hc2.2; omega))) ea_nil))) rfl) rfl (by decide) (by decide)) ?_)
    rintro s' x ⟨rfl, d, hd, rfl⟩
    refine ⟨Nat.le_refl _, d, ?_, rfl⟩
    simp only [List.mem_cons, List.not_mem_nil, or_false] at hd
    rcases hd with rfl | rfl | rfl
    · exact okN_tup (by have := hc.2; omega) fun d hd => okN_mono (hc.1 d hd)
    · refine okN_tup (by rw [List.length_append, List.length_map, t6]; exact Nat.le_of_ble_eq_true rfl) fun d hd => ?_
      rcases List.mem_append.mp hd with h | h
      · obtain ⟨i, hi, rfl⟩ := List.mem_map.mp h
        exact okN_b (ht.2 i hi)
      · rw [List.mem_singleton.mp h]
        exact okN_b hib
    · refine okN_tup (by rw [List.length_append]; have := hc.2; have := hc2.2; omega) fun d hd => ?_
      rcases List.mem_append.mp hd with h | h
      · exact okN_mono (hc.1 d h)
      · exact okN_mono (hc2.1 d h)
  obtain ⟨rfl, _⟩ := q
  -- 2: other things
  refine sd_when (et_test (ed_op (ed_var rfl) ed_c (od_eqD rfl rfl))) (fun s1 q => ?_) (fun s1 q => ?_)
  · obtain ⟨rfl, _⟩ := q
    refine sd_asgI (ed_lst (ea_cons (ed_cb (ea_cons (ed_var rfl) ea_nil) (cd_list (.inr rfl))) (ea_cons ed_c (ea_cons ed_c (ea_cons ed_c (ea_cons ed_c (ea_cons (ed_lst ea_nil rfl) (ea_cons (ed_tup ea_nil rfl) (ea_cons (ed_lst (ea_cons (ed_var rfl) ea_nil) rfl) (ea_cons (ed_tup (ea_cons (ed_var rfl) ea_nil) rfl) (ea_cons ed_c (ea_cons (ed_tup (ea_cons (ed_tup (ea_cons ed_c (ea_cons ed_c ea_nil)) rfl) (ea_cons (ed_tup (ea_cons ed_c (ea_cons ed_c ea_nil)) rfl) (ea_cons (ed_tup (ea_cons ed_c (ea_cons ed_c ea_nil)) rfl) ea_nil))) rfl) ea_nil))))))))))) rfl) ?_
    refine finN (ed_imp (ed_pick hf rfl (ed_var rfl) rfl (by decide) (by decide)) ?_)
    rintro s' x ⟨rfl, d, hd, rfl⟩
    refine ⟨Nat.le_refl _, d, ?_, rfl⟩
    simp only [List.mem_cons, List.not_mem_nil, or_false] at hd
    rcases hd with rfl | rfl | rfl | rfl | rfl | rfl | rfl | rfl | rfl | rfl | rfl
    · refine okN_lst (by rw [List.length_map, t6]; decide) fun d hd => ?_
      obtain ⟨i, hi, rfl⟩ := List.mem_map.mp hd
      exact okN_b (ht.2 i hi)
    · decide +kernel
    · decide +kernel
    · decide +kernel
    · decide +kernel
    · decide +kernel
    · decide +kernel
    · exact okN_lst (Nat.le_of_ble_eq_true rfl) fun d hd => by rw [List.mem_singleton.mp hd]; exact okN_coat ht
    · exact okN_tup (Nat.le_of_ble_eq_true rfl) fun d hd => by rw [List.mem_singleton.mp hd]; exact okN_coat ht
    · decide +kernel
    · decide +kernel
  obtain ⟨rfl, _⟩ := q
  exact sd_retI (ed_var rfl) ⟨by show n + 3 ≤ n + 1 + 3; omega, _, okN_coat ht, rfl⟩
theorem ok__law_spoiled {f : Addr} {fd : FuncData} (F : Fun K "_law_spoiled" "_law_spoiled" s__law_spoiled f fd) {f__law_draw : Addr} {fd__law_draw : FuncData} (G__law_draw : FnOk P w K mg base CX0 1 f__law_draw fd__law_draw ["_law_purse_here", "_law_out_of"] spDraw) (m__law_draw : mg "_law_draw" = some (.ref f__law_draw)) (k__law_draw : PySem.W.keepIn K (.ref f__law_draw) = true) (b__law_draw : Binds K fd__law_draw ["_law_purse_here", "_law_out_of"] []) {f__law_mixed : Addr} {fd__law_mixed : FuncData} (G__law_mixed : FnOk P w K mg base CX0 2 f__law_mixed fd__law_mixed ["_law_purse_here", "_law_some"] (spU K aMixed fMixed)) (m__law_mixed : mg "_law_mixed" = some (.ref f__law_mixed)) (k__law_mixed : PySem.W.keepIn K (.ref f__law_mixed) = true) (b__law_mixed : Binds K fd__law_mixed ["_law_purse_here", "_law_some"] []) (m_int : mg "int" = none) (m_list : mg "list" = none) (m_range : mg "range" = none) (m_tuple : mg "tuple" = none) : FnOk P w K mg base CX0 3 f fd ["_law_purse_here", "_law_spun"] (spU K aBent fBent) := by
  refine F.ok sc__law_spoiled (spU_len (n := 2) (fun m es h => by obtain ⟨hn, t, ht, rfl⟩ := h; rfl)) (fun cdv A outer s H vs Q E hr h => ?_)
  have hu := hr.units
  have hu5 := hu5_of hr
  refine ⟨_, (pss_cons (ps_set (i := 2) sc__law_spoiled.nd rfl (Or.inl rfl) (pe_call G__law_draw (hr.mono (by decide)) (by rfl) m__law_draw k__law_draw b__law_draw .nil pass0 (pa_cons (pv 0) (pa_cons pe_int pa_nil))))
        (pss_cons (ps_par (i := 3) (j := 4) (by rfl) sc__law_spoiled.nd rfl rfl (by decide) rfl rfl (pa_cons (pe_call G__law_draw (hr.mono (by decide)) (by rfl) m__law_draw k__law_draw b__law_draw .nil pass0 (pa_cons (pv 0) (pa_cons pe_int pa_nil))) (pa_cons (pe_call G__law_draw (hr.mono (by decide)) (by rfl) m__law_draw k__law_draw b__law_draw .nil pass0 (pa_cons (pv 0) (pa_cons pe_int pa_nil))) pa_nil)) (by rfl))
        (pss_cons (ps_if (pt_cmpR (op_eqD hu) (pv 2) pe_int (nomark _)) (pss_cons (ps_set (i := 5) sc__law_spoiled.nd rfl (Or.inl rfl) (pe_callTy call_list_of (by rfl) m_list (by decide +kernel) (pa_cons (pv 1) pa_nil)))
        (pss_cons (ps_asg (pe_tupF (pa_cons (pe_ix ix_seq (pv 1) (pv 4) (fun _ _ => rfl)) (pa_cons (pe_ix ix_seq (pv 1) (pv 3) (fun _ _ => rfl)) pa_nil))) (pg_tup rfl (pgs_cons (pg_sub (pv 5) (pv 3) set_list) (pgs_cons (pg_sub (pv 5) (pv 4) set_list) pgs_nil))))
        (pss_one (ps_ret (pe_callTy call_tupleF (by rfl) m_tuple (by decide +kernel) (pa_cons (pv 5) pa_nil)))))) pss_nil)
        (pss_cons (ps_if (pt_cmpR (op_eqD hu) (pv 2) pe_int (nomark _)) (pss_one (ps_ret (pe_callTy call_tupleF (by rfl) m_tuple (by decide +kernel) (pa_cons (pe_call G__law_mixed (hr.mono (by decide)) (by rfl) m__law_mixed k__law_mixed b__law_mixed .nil pass0 (pa_cons (pv 0) (pa_cons (pe_listRg rfl (by rfl) m_list (prg_1 (by rfl) m_range pe_int)) pa_nil))) pa_nil)))) pss_nil)
        (pss_cons (ps_if (pt_cmpR (op_eqD hu) (pv 2) pe_int (nomark _)) (pss_cons (ps_set (i := 6) sc__law_spoiled.nd rfl (Or.inl rfl) (pe_lst (pa_cons (pe_un un_neg pe_int) (pa_cons pe_int (pa_cons pe_bl (pa_cons pe_bl (pa_cons pe_non (pa_cons pe_str (pa_cons (pe_lst (pa_cons pe_int pa_nil)) (pa_cons (pe_tupF (pa_cons pe_int pa_nil)) (pa_cons (pe_ix ix_seq (pv 1) (pv 4) (fun _ _ => rfl)) (pa_cons (pe_op op_sub (pe_op op_powX pe_int pe_int) pe_int) pa_nil))))))))))))
        (pss_one (ps_ret (pe_op op_catF (pe_op op_catF (pe_slice sl_tupF (pv 1) po_none (po_some (pv 3))) (pe_tupF (pa_cons (pe_ix ix_seq (pv 6) (pe_call G__law_draw (hr.mono (by decide)) (by rfl) m__law_draw k__law_draw b__law_draw .nil pass0 (pa_cons (pv 0) (pa_cons pe_int pa_nil))) (fun _ _ => rfl)) pa_nil))) (pe_slice sl_tupF (pv 1) (po_some (pe_op op_add (pv 3) pe_int)) po_none))))) pss_nil)
        (pss_cons (ps_if (pt_cmpR (op_eqD hu) (pv 2) pe_int (nomark _)) (pss_one (ps_ret (pe_ix ix_seq (pe_lst (pa_cons (pe_slice sl_tupF (pv 1) po_none (po_some (pv 3))) (pa_cons (pe_op op_catF (pv 1) (pe_tupF (pa_cons (pe_ix ix_seq (pv 1) (pv 3) (fun _ _ => rfl)) pa_nil))) (pa_cons (pe_op op_catF (pe_slice sl_tupF (pv 1) po_none (po_some (pv 3))) (pe_slice sl_tupF (pv 1) (po_some (pe_op op_add (pv 3) pe_int)) po_none)) pa_nil)))) (pe_op op_mod (pv 4) pe_int) (fun _ _ => rfl)))) pss_nil)
        (pss_cons (ps_if (pt_cmpR (op_eqD hu) (pv 2) pe_int (nomark _)) (pss_cons (ps_set (i := 7) sc__law_spoiled.nd rfl (Or.inl rfl) (pe_lst (pa_cons (pe_callTy call_list_of (by rfl) m_list (by decide +kernel) (pa_cons (pv 1) pa_nil)) (pa_cons pe_non (pa_cons pe_str (pa_cons pe_int (pa_cons pe_bl (pa_cons (pe_lst pa_nil) (pa_cons (pe_tupF pa_nil) (pa_cons (pe_lst (pa_cons (pv 1) pa_nil)) (pa_cons (pe_tupF (pa_cons (pv 1) pa_nil)) (pa_cons pe_str (pa_cons (pe_tupF (pa_cons (pe_tupF (pa_cons pe_int (pa_cons pe_int pa_nil))) (pa_cons (pe_tupF (pa_cons pe_int (pa_cons pe_int pa_nil))) (pa_cons (pe_tupF (pa_cons pe_int (pa_cons pe_int pa_nil))) pa_nil)))) pa_nil)))))))))))))
        (pss_one (ps_ret (pe_ix ix_seq (pv 7) (pe_call G__law_draw (hr.mono (by decide)) (by rfl) m__law_draw k__law_draw b__law_draw .nil pass0 (pa_cons (pv 0) (pa_cons pe_int pa_nil))) (fun _ _ => rfl))))) pss_nil)
        (pss_cons (ps_if (pt_cmpR (op_eqD hu) (pv 2) pe_int (nomark _)) (pss_one (ps_ret (pe_callTy call_tupleF (by rfl) m_tuple (by decide +kernel) (pa_cons (pe_lc (te := (tOp (rIx K) (tLst (tCons (tVar 8) (tCons (tOp rEq (tVar 8) (tC (.int 1))) tNil))) (tCB (fun xs H Q => (∃ i, xs = [.int i] ∧ Q (.int i) H) ∨ ∃ k, xs = [.bl k] ∧ Q (.int (if k then 1 else 0)) H) (tCons (tOp (rI0 fun i j => .bl (decide (i < j))) (tVar 8) (tC (.int 2))) tNil)))) (own := [("_law_side", 8)]) (g := gName 8) rfl sc__law_spoiled.nd (pi_tup (pv 1)) (blkOk_by (own := [("_law_side", 8)]) (N := N__law_spoiled) (sc := defScope s__law_spoiled) (by decide +kernel)) (fun _ _ _ _ _ => pg_name (i := 8) sc__law_spoiled.nd rfl (Or.inl rfl)) (fun _ _ _ _ _ => pts_nil) (fun _ _ _ _ _ => (pe_ix ix_seq (pe_lst (pa_cons (pv 8) (pa_cons (pe_cmpR op_eq (pv 8) pe_int (nomark _)) pa_nil))) (pe_callTy call_int1 (by rfl) m_int (by decide +kernel) (pa_cons (pe_cmpR op_lt (pv 8) pe_int (nomark _)) pa_nil)) (fun _ _ => rfl)))) pa_nil)))) pss_nil)
        (pss_one (ps_ret (pv 1))))))))))), run_purse h fun f p c n es hf ha => ?_⟩
  obtain ⟨hn, t, ht, rfl⟩ := ha
  obtain ⟨n, rfl⟩ : ∃ m, n = m + 12 := ⟨n - 12, by omega⟩
  have t6 := turn_len t ht
  have fin : ∀ {f s te δ} {d : PyData}, ED K f s te δ (Is s (.dat d)) → okN 3 d = true → n ≤ s.n → SD K f s (tRet te) δ ⟨fun s' _ => fBent (n + 12) [.dat (tupD t)] s'.n (.dat .none), fun s' x => fBent (n + 12) [.dat (tupD t)] s'.n x, fun _ _ => False, fun _ _ => False⟩ := fun h ok hn => sd_retI h ⟨by omega, _, ok, rfl⟩
  have finF : ∀ {f s te δ} {d : PyData}, ED K f s te δ (Is s (.dat d)) → okN 3 d = true → n ≤ s.n → SD K f s (tRet te) δ ⟨fun _ _ => False, fun s' x => fBent (n + 12) [.dat (tupD t)] s'.n x, fun _ _ => False, fun _ _ => False⟩ := fun h ok hn => sd_retI h ⟨by omega, _, ok, rfl⟩
  have finN : ∀ {f s te δ}, ED K f s te δ (fun s' x => n ≤ s'.n ∧ ∃ d, okN 3 d = true ∧ x = .dat d) → SD K f s (tRet te) δ ⟨fun _ _ => False, fun s' x => fBent (n + 12) [.dat (tupD t)] s'.n x, fun _ _ => False, fun _ _ => False⟩ := fun h => sd_ret h fun s' x q => ⟨by omega, q.2⟩
  refine sd_asgS (P := Drawn (n + 11) [] 9) (ed_drawC hf rfl (by decide) (by decide)) ?_
  rintro s1 x ⟨rfl, w, _, _, rfl⟩
  refine sd_par (PA := fun s' es => s' = ⟨n + 9, []⟩ ∧ ∃ a b : Int, 0 ≤ a ∧ a < 6 ∧ 0 ≤ b ∧ b < 6 ∧ es = [.dat (.int a), .dat (.int b)]) (ea_consN (P := Drawn (n + 10) [] 6) (P2 := fun _ _ s' es => ∃ y, es = [y] ∧ Drawn (n + 9) [] 6 s' y) (ed_drawC hf rfl (by decide) (by decide)) (fun s1 x q => by obtain ⟨rfl, _⟩ := q; exact ea_one (ed_drawC hf rfl (by decide) (by decide))) ?_) ?_
  · rintro s1 x s2 xs ⟨_, a, a0, a1, rfl⟩ ⟨y, rfl, rfl, b, b0, b1, rfl⟩
    exact ⟨rfl, a, b, a0, a1, b0, b1, rfl⟩
  rintro s1 es ⟨rfl, a, b, a0, a1, b0, b1, rfl⟩
  refine ⟨_, _, rfl, ?_⟩
  obtain ⟨ia, hia, ei⟩ := at_turn ht a0 a1
  obtain ⟨ib, hib, ej⟩ := at_turn ht b0 b1
  -- 0: two sides exchanged
  refine sd_when (et_test (ed_op (ed_var rfl) ed_c (od_eqD rfl rfl))) (fun s1 q => ?_) (fun s1 q => ?_)
  · obtain ⟨rfl, _⟩ := q
    refine sd_listNew (ds := t.map .int) (ed_var rfl) (.inr rfl) fun D => ?_
    refine sd_swapSet (i := a.toNat) (j := b.toNat) (x := .int ib) (y := .int ia) (ea_cons (ed_op (ed_var rfl) (ed_var rfl) (od_ix (.inr rfl) ej)) (ea_cons (ed_op (ed_var rfl) (ed_var rfl) (od_ix (.inr rfl) ei)) ea_nil)) rfl (fun es' => ed_is (ed_var rfl) (by rw [Int.toNat_of_nonneg a0])) (fun es' => ed_is (ed_var rfl) (by rw [Int.toNat_of_nonneg b0])) (by rw [List.length_map, List.length_map, t6]; omega) (by rw [List.length_map, List.length_map, t6]; omega) ?_
    rw [← List.map_set, ← List.map_set, ← List.map_set, ← List.map_set]
    refine finF (ed_cb (ea_cons (ed_var rfl) ea_nil) cd_tupleOwn) (okN_ints (by rw [List.length_set, List.length_set, t6]; decide) fun i hi => ?_) (by show n ≤ n + 9; omega)
    rcases List.mem_or_eq_of_mem_set hi with hi | rfl
    · rcases List.mem_or_eq_of_mem_set hi with hi | rfl
      · exact turn_small t ht i hi
      · exact turn_small t ht _ hib
    · exact turn_small t ht _ hia
  obtain ⟨rfl, _⟩ := q
  -- 1: any order
  refine sd_when (et_test (ed_op (ed_var rfl) ed_c (od_eqD rfl rfl))) (fun s1 q => ?_) (fun s1 q => ?_)
  · obtain ⟨rfl, _⟩ := q
    refine finN (ed_tupleN (L := fun s' rs => s' = ⟨n + 3, []⟩ ∧ ∃ ns : List Int, ns.length = 6 ∧ (∀ i ∈ ns, 0 ≤ i ∧ i < 6) ∧ rs = ns.map .int) (ed_callU hf rfl (ea_one (ed_listRg (m := 6) ed_c (by decide))) ?_) ?_)
    · rintro s' es ⟨x, rfl, rfl, rfl⟩
      refine ⟨n + 9, [], rfl, ⟨rngD 6, by decide, by rw [rngD_len]; omega, by decide +kernel, rfl⟩, fun m x h => ?_⟩
      obtain ⟨h1, rs, hp, rfl⟩ := h _ rfl
      rw [rngD_len] at h1
      obtain ⟨ms, p1, p2⟩ := perm_ints hp (ns := [0, 1, 2, 3, 4, 5]) rfl
      have hm : m = n + 3 := by omega
      subst hm
      refine ⟨rs, rfl, rfl, ms, p1.length_eq, fun i hi => ?_, p2⟩
      have := p1.mem_iff.mp hi
      simp only [List.mem_cons, List.not_mem_nil, or_false] at this
      omega
    · rintro s' rs ⟨rfl, ns, hl, hb, rfl⟩
      exact ⟨by show n ≤ n + 3; omega, _, okN_ints (by omega) hb, rfl⟩
  obtain ⟨rfl, _⟩ := q
  -- 2: a side another thing
  refine sd_when (et_test (ed_op (ed_var rfl) ed_c (od_eqD rfl rfl))) (fun s1 q => ?_) (fun s1 q => ?_)
  · obtain ⟨rfl, _⟩ := q
    refine sd_asgI (ed_lst (ea_cons (ed_un ed_c ud_neg) (ea_cons ed_c (ea_cons ed_c (ea_cons ed_c (ea_cons ed_c (ea_cons ed_c (ea_cons (ed_lst (ea_cons ed_c ea_nil) rfl) (ea_cons (ed_tup (ea_cons ed_c ea_nil) rfl) (ea_cons (ed_op (ed_var rfl) (ed_var rfl) (od_ix (.inr rfl) ej)) (ea_cons (ed_op (ed_op ed_c ed_c (od_I ⟨by decide, by decide +kernel⟩)) ed_c od_I0) ea_nil)))))))))) rfl) ?_
    refine finN (ed_opN (P := fun s' x => s' = ⟨n + 8, []⟩ ∧ ∃ ds, (∀ d ∈ ds, okN 2 d = true) ∧ ds.length ≤ 7 ∧ x = .dat (.tuple ds)) (P2 := fun _ _ => Is ⟨n + 8, []⟩ (.dat (.tuple (cutD (t.map .int) (some (a + 1)) none)))) (ed_opN (P := Is ⟨n + 9, []⟩ (.dat (.tuple (cutD (t.map .int) none (some a))))) (P2 := fun _ _ s' x => s' = ⟨n + 8, []⟩ ∧ ∃ d, okN 2 d = true ∧ x = .dat (.tuple [d])) (ed_slO (ed_var rfl) eo_none (eo_some (ed_var rfl))) (fun s1 x q => ?_) ?_) (fun s1 x q => ?_) ?_)
    · obtain ⟨rfl, rfl⟩ := q
      refine ed_tupN (ea_one (ed_pick hf rfl (ed_var rfl) rfl (by decide) (by decide))) ?_
      rintro s' es ⟨x, rfl, rfl, d, hd, rfl⟩
      refine ⟨[d], rfl, Nat.le_of_ble_eq_true rfl, rfl, d, ?_, rfl⟩
      have hib' := turn_small t ht ib hib
      simp only [List.mem_cons, List.not_mem_nil, or_false] at hd
      rcases hd with rfl | rfl | rfl | rfl | rfl | rfl | rfl | rfl | rfl | rfl
      · decide +kernel
      · decide +kernel
      · decide +kernel
      · decide +kernel
      · decide +kernel
      · decide +kernel
      · decide +kernel
      · decide +kernel
      · exact okN_small hib'.1 (by omega)
      · decide +kernel
    · rintro s1 x s2 y ⟨rfl, rfl⟩ ⟨rfl, d, hd, rfl⟩
      intro G H v u Q jj o1 o2 k
      have hc := cut_ok ht none (some a)
      refine od_catF (by have := hc.2; show _ + 1 ≤ 100000; omega) G H v u Q jj o1 o2 fun w2 z s' G2 H2 e1 j1 o3 p1 => k w2 z s' G2 H2 e1 j1 o3 ?_
      obtain ⟨rfl, rfl⟩ := p1
      refine ⟨rfl, _, fun d' hd' => ?_, by rw [List.length_append]; have := hc.2; show _ + 1 ≤ 7; omega, rfl⟩
      rcases List.mem_append.mp hd' with h | h
      · exact okN_mono (hc.1 d' h)
      · rw [List.mem_singleton.mp h]; exact hd
    · obtain ⟨rfl, _⟩ := q
      exact ed_slO (ed_var rfl) (eo_some (ed_op (ed_var rfl) ed_c od_I0)) eo_none
    · rintro s1 x s2 y ⟨rfl, ds, h1, h2, rfl⟩ ⟨rfl, rfl⟩
      intro G H v u Q jj o1 o2 k
      have hc := cut_ok ht (some (a + 1)) none
      refine od_catF (by have := hc.2; omega) G H v u Q jj o1 o2 fun w2 z s' G2 H2 e1 j1 o3 p1 => k w2 z s' G2 H2 e1 j1 o3 ?_
      obtain ⟨rfl, rfl⟩ := p1
      refine ⟨by show n ≤ n + 8; omega, _, okN_tup (by rw [List.length_append]; have := hc.2; omega) fun d' hd' => ?_, rfl⟩
      rcases List.mem_append.mp hd' with h | h
      · exact h1 d' h
      · exact okN_mono (hc.1 d' h)
  obtain ⟨rfl, _⟩ := q
  -- 3: fewer or more
  refine sd_when (et_test (ed_op (ed_var rfl) ed_c (od_eqD rfl rfl))) (fun s1 q => ?_) (fun s1 q => ?_)
  · obtain ⟨rfl, _⟩ := q
    have hc := cut_ok ht none (some a)
    have hc2 := cut_ok ht (some (a + 1)) none
    have hia' := turn_small t ht ia hia
    obtain ⟨d, hd, e⟩ := at_list (L := [.tuple (cutD (t.map PyData.int) none (some a)), .tuple (t.map PyData.int ++ [.int ia]), .tuple (cutD (t.map PyData.int) none (some a) ++ cutD (t.map PyData.int) (some (a + 1)) none)]) (r := b % 3) (by omega) (by show b % 3 < 3; omega)
    refine finF (ed_op (ed_lst (ea_cons (ed_slO (ed_var rfl) eo_none (eo_some (ed_var rfl))) (ea_cons (ed_op (ed_var rfl) (ed_tup (ea_cons (ed_op (ed_var rfl) (ed_var rfl) (od_ix (.inr rfl) ei)) ea_nil) rfl) (od_catF (by rw [List.length_map, t6]; exact Nat.le_of_ble_eq_true rfl))) (ea_cons (ed_op (ed_slO (ed_var rfl) eo_none (eo_some (ed_var rfl))) (ed_slO (ed_var rfl) (eo_some (ed_op (ed_var rfl) ed_c od_I0)) eo_none) (od_catF (by have := hc.2; have := hc2.2; omega))) ea_nil))) rfl) (ed_op (ed_var rfl) ed_c (od_I (by decide))) (od_ix (.inl rfl) e)) ?_ (by show n ≤ n + 9; omega)
    simp only [List.mem_cons, List.not_mem_nil, or_false] at hd
    rcases hd with rfl | rfl | rfl
    · exact okN_tup (by have := hc.2; omega) fun d hd => okN_mono (hc.1 d hd)
    · refine okN_tup (by rw [List.length_append, List.length_map, t6]; exact Nat.le_of_ble_eq_true rfl) fun d hd => ?_
      rcases List.mem_append.mp hd with h | h
      · obtain ⟨i, hi, rfl⟩ := List.mem_map.mp h
        have := turn_small t ht i hi
        exact okN_small this.1 (by omega)
      · rw [List.mem_singleton.mp h]
        exact okN_small hia'.1 (by omega)
    · refine okN_tup (by rw [List.length_append]; have := hc.2; have := hc2.2; omega) fun d hd => ?_
      rcases List.mem_append.mp hd with h | h
      · exact okN_mono (hc.1 d h)
      · exact okN_mono (hc2.1 d h)
  obtain ⟨rfl, _⟩ := q
  -- 4: other things
  refine sd_when (et_test (ed_op (ed_var rfl) ed_c (od_eqD rfl rfl))) (fun s1 q => ?_) (fun s1 q => ?_)
  · obtain ⟨rfl, _⟩ := q
    refine sd_asgI (ed_lst (ea_cons (ed_cb (ea_cons (ed_var rfl) ea_nil) (cd_list (.inr rfl))) (ea_cons ed_c (ea_cons ed_c (ea_cons ed_c (ea_cons ed_c (ea_cons (ed_lst ea_nil rfl) (ea_cons (ed_tup ea_nil rfl) (ea_cons (ed_lst (ea_cons (ed_var rfl) ea_nil) rfl) (ea_cons (ed_tup (ea_cons (ed_var rfl) ea_nil) rfl) (ea_cons ed_c (ea_cons (ed_tup (ea_cons (ed_tup (ea_cons ed_c (ea_cons ed_c ea_nil)) rfl) (ea_cons (ed_tup (ea_cons ed_c (ea_cons ed_c ea_nil)) rfl) (ea_cons (ed_tup (ea_cons ed_c (ea_cons ed_c ea_nil)) rfl) ea_nil))) rfl) ea_nil))))))))))) rfl) ?_
    refine finN (ed_imp (ed_pick hf rfl (ed_var rfl) rfl (by decide) (by decide)) ?_)
    rintro s' x ⟨rfl, d, hd, rfl⟩
    refine ⟨by show n ≤ n + 8; omega, d, ?_, rfl⟩
    simp only [List.mem_cons, List.not_mem_nil, or_false] at hd
    rcases hd with rfl | rfl | rfl | rfl | rfl | rfl | rfl | rfl | rfl | rfl | rfl
    · refine okN_lst (by rw [List.length_map, t6]; decide) fun d hd => ?_
      obtain ⟨i, hi, rfl⟩ := List.mem_map.mp hd
      have := turn_small t ht i hi
      exact okN_small this.1 (by omega)
    · decide +kernel
    · decide +kernel
    · decide +kernel
    · decide +kernel
    · decide +kernel
    · decide +kernel
    · exact okN_lst (Nat.le_of_ble_eq_true rfl) fun d hd => by rw [List.mem_singleton.mp hd]; exact okN_turn ht
    · exact okN_tup (Nat.le_of_ble_eq_true rfl) fun d hd => by rw [List.mem_singleton.mp hd]; exact okN_turn ht
    · decide +kernel
    · decide +kernel
  obtain ⟨rfl, _⟩ := q
  -- 5: truths
  refine sd_when (et_test (ed_op (ed_var rfl) ed_c (od_eqD rfl rfl))) (fun s1 q => ?_) (fun s1 q => ?_)
  · obtain ⟨rfl, _⟩ := q
    refine finF (ed_cb (ea_cons (ed_lcT1 (fun d => match d with | .int i => if i < 2 then .bool (decide (V.int i = V.int 1)) else .int i | d => d) (ds := t.map .int) (ed_var rfl) (by rw [List.length_map, t6]; decide) (fun d hd s' => ?_)) ea_nil) cd_tuple) ?_ (by show n ≤ n + 9; omega)
    · obtain ⟨i, hi, rfl⟩ := List.mem_map.mp hd
      refine ed_op (ed_lst (ea_cons (ed_var rfl) (ea_cons (ed_op (ed_var rfl) ed_c od_eqI) ea_nil)) rfl) (ed_cb (ea_cons (ed_op (ed_var rfl) ed_c od_I0) ea_nil) cd_intB) (od_ix (.inl rfl) ?_)
      show atI [PyData.int i, PyData.bool (decide (V.int i = V.int 1))] (if decide (i < 2) = true then 1 else 0) = some (if i < 2 then PyData.bool (decide (V.int i = V.int 1)) else PyData.int i)
      by_cases h2 : i < 2
      · rw [if_pos (decide_eq_true h2), if_pos h2]
        rfl
      · rw [if_neg (by simpa using h2), if_neg h2]
        rfl
    · refine okN_tup (by rw [List.length_map, List.length_map, t6]; decide) fun d hd => ?_
      obtain ⟨d', hd', rfl⟩ := List.mem_map.mp hd
      obtain ⟨i, hi, rfl⟩ := List.mem_map.mp hd'
      have := turn_small t ht i hi
      show okN 2 (if i < 2 then PyData.bool (decide (V.int i = V.int 1)) else PyData.int i) = true
      split
      · rfl
      · exact okN_small this.1 (by omega)
  obtain ⟨rfl, _⟩ := q
  exact fin (ed_var rfl) (okN_turn ht) (by show n ≤ n + 9; omega)
theorem ok__law_six {f : Addr} {fd : FuncData} (F : Fun K "_law_six" "_law_six" s__law_six f fd) {f__law_whole : Addr} {fd__law_whole : FuncData} (G__law_whole : FnOk P w K mg base CX0 1 f__law_whole fd__law_whole ["_law_piece"] (spP K aAny fIsWhole)) (m__law_whole : mg "_law_whole" = some (.ref f__law_whole)) (k__law_whole : PySem.W.keepIn K (.ref f__law_whole) = true) (b__law_whole : Binds K fd__law_whole ["_law_piece"] []) (m_all : mg "all" = none) (m_isinstance : mg "isinstance" = none) (m_len : mg "len" = none) (m_tuple : mg "tuple" = none) : FnOk P w K mg base CX0 2 f fd ["_law_piece"] (spP K aAny fSix) := by
  refine F.ok sc__law_six (spP_len (n := 1) (fun es h => by obtain ⟨d, rfl⟩ := h; rfl)) (fun cdv A outer s H vs Q E hr h => ?_)
  have hu := hr.units
  have hu5 := hu5_of hr
  refine ⟨_, (pss_one (ps_ret (pe_and (pe_callB call_isi (by rfl) m_isinstance (by decide +kernel) (pa_cons (pv 0) (pa_cons (pe_bltn (v := .ty "tuple") (u := .type "tuple") (by rfl) m_tuple (by decide +kernel) rfl) pa_nil))) (pe_and (pe_cmpR (op_eqD hu) (pe_callB call_len_seq (by rfl) m_len (by decide +kernel) (pa_cons (pv 0) pa_nil)) pe_int (nomark _)) (pe_one (pe_callB (cr_all rfl) (by rfl) m_all (by decide +kernel) (pa_cons (pe_lc (te := (tCall (spP K aAny fIsWhole) [] E0 (tCons (tVar 1) tNil))) (own := [("_law_part", 1)]) (g := gName 1) rfl sc__law_six.nd (pi_tup (pv 0)) (blkOk_by (own := [("_law_part", 1)]) (N := N__law_six) (sc := defScope s__law_six) (by decide +kernel)) (fun _ _ _ _ _ => pg_name (i := 1) sc__law_six.nd rfl (Or.inl rfl)) (fun _ _ _ _ _ => pts_nil) (fun _ _ _ _ _ => (pe_call G__law_whole (hr.mono (by decide)) (by rfl) m__law_whole k__law_whole b__law_whole .nil pass0 (pa_cons (pv 1) pa_nil)))) pa_nil))))))), run_pure h fun f s es ha => ?_⟩
  obtain ⟨d, rfl⟩ := ha
  refine sd_retI (x := .dat (.bool (isSixD d))) ?_ (fun _ e => by cases e; rfl)
  cases d with
  | tuple ds =>
    refine ed_is (ed_and (ed_isTup (ed_var rfl)) fun _ => ed_and (b := (ds.map isWholeD).all id) (ed_op (ed_cb (ea_cons (ed_var rfl) ea_nil) (cd_len (.inr rfl))) ed_c (od_eqD rfl rfl)) fun h6 => ed_all (g := isWholeD) (ds := ds) (ed_lcT1 (fun d => .bool (isWholeD d)) (ed_var rfl) ?_ fun d _ s' => ed_callE (ea_cons (ed_var rfl) ea_nil) ⟨d, rfl⟩ fun y r => r d rfl)) ?_
    · have : ds.length = 6 := by
        simp only [PyData.eqv, beq_iff_eq, decide_eq_true_eq] at h6
        omega
      omega
    · show En.dat (.bool (true && (PyData.eqv (.int ds.length) (.int 6) && _))) = .dat (.bool (ds.length == 6 && _))
      have e : PyData.eqv (.int ds.length) (.int 6) = (ds.length == 6) := by
        rw [Bool.eq_iff_iff]
        simp only [PyData.eqv, beq_iff_eq, decide_eq_true_eq]
        omega
      rw [e, Bool.true_and]
  | _ => exact ed_is (ed_andV (P := Is _ (.dat (.bool false))) (ed_isTup (ed_var rfl)) (fun z => by cases z) (fun _ => ⟨rfl, rfl⟩)) rfl
theorem ok__law_refused {f : Addr} {fd : FuncData} (F : Fun K "_law_refused" "_law_refused" s__law_refused f fd) {f_turned : Addr} {fd_turned : FuncData} (G_turned : FnOk P w K mg base (L2.CX P w) 5 f_turned fd_turned ["paints", "turn"] (spX K aAny2 rTurnedX (xTurnedX c_NoPaints c_NoTurn))) (m_turned : mg "turned" = some (.ref f_turned)) (k_turned : PySem.W.keepIn K (.ref f_turned) = true) (b_turned : Binds K fd_turned ["paints", "turn"] []) (kb_turned_1_turn : KBinds K fd_turned ["paints", "turn"] ["turn"] kg_turned_1_turn kg_turned_1_turn) (kb_turned_0_turn_paints : KBinds K fd_turned ["paints", "turn"] ["turn", "paints"] kg_turned_0_turn_paints kg_turned_0_turn_paints) {f__law_marks : Addr} {fd__law_marks : FuncData} (G__law_marks : FnOk P w K mg base CX0 1 f__law_marks fd__law_marks ["_law_caught"] (spP K (aMarks [c_NoBack, c_NoBase, c_NoChange, c_NoCounts, c_NoCube, c_NoCubes, c_NoFit, c_NoName, c_NoNumber, c_NoPaints, c_NoPalette, c_NoPaper, c_NoPlace, c_NoRow, c_NoSix, c_NoStock, c_NoText, c_NoTurn, c_NoWord, c_TooMany] [9, 17]) (fMarks [c_NoBack, c_NoBase, c_NoChange, c_NoCounts, c_NoCube, c_NoCubes, c_NoFit, c_NoName, c_NoNumber, c_NoPaints, c_NoPalette, c_NoPaper, c_NoPlace, c_NoRow, c_NoSix, c_NoStock, c_NoText, c_NoTurn, c_NoWord, c_TooMany] [9, 17]))) (m__law_marks : mg "_law_marks" = some (.ref f__law_marks)) (k__law_marks : PySem.W.keepIn K (.ref f__law_marks) = true) (b__law_marks : Binds K fd__law_marks ["_law_caught"] []) (mc_CubeError : mg "CubeError" = some (.ref c_CubeError)) (xm_P : PySem.W.exmOne K (.ref c_NoPaints) (.ref c_CubeError) = some true) (xm_T : PySem.W.exmOne K (.ref c_NoTurn) (.ref c_CubeError) = some true) : FnOk P w K mg base CX0 6 f fd ["_law_coat_here", "_law_spun", "_law_way"] (spP K aRef fRef) := by
  refine F.ok sc__law_refused (spP_len (n := 3) (fun es h => by obtain ⟨d1, d2, i, rfl⟩ := h; rfl)) (fun cdv A outer s H vs Q E hr h => ?_)
  have hu := hr.units
  have hu5 := hu5_of hr
  refine ⟨_, (pss_cons (ps_set (i := 3) sc__law_refused.nd rfl (Or.inl rfl) pe_non)
        (pss_cons (ps_try_keep (i := 4) (j := 3) rfl rfl rfl sc__law_refused.nd rfl rfl ⟨by rfl, by decide, .inl mc_CubeError⟩ (fun _ _ _ => pss_one (ps_set (i := 3) sc__law_refused.nd rfl (Or.inl rfl) (pv 4))) (fun W pn xe tk _ => (pss_one (ps_if (pt_cmpR op_eq (pv 2) pe_int (nomark _)) (pss_one (ps_expr (pe_callS G_turned (hr.mono (by decide)) (by rfl) m_turned k_turned b_turned (fun σ => passAt tk σ) (pa_cons (pv 0) (pa_cons (pv 1) pa_nil))))) (pss_one (ps_if (pt_cmpR op_eq (pv 2) pe_int (nomark _)) (pss_one (ps_expr (pe_callKS G_turned (hr.mono (by decide)) (by rfl) m_turned k_turned kb_turned_1_turn (fun σ => passAt tk σ) (pa_cons (pv 0) pa_nil) (pk_cons (pv 1) pk_nil)))) (pss_one (ps_expr (pe_callK0S G_turned (hr.mono (by decide)) (by rfl) m_turned k_turned kb_turned_0_turn_paints (fun σ => passAt tk σ) (pk_cons (pv 1) (pk_cons (pv 0) pk_nil)))))))))))
        (pss_cons (ps_if (pt_cmpR op_isN (pv 3) pe_non (nomark _)) (pss_one (ps_ret (pe_lst pa_nil))) pss_nil)
        (pss_one (ps_ret (pe_call G__law_marks (hr.mono (by decide)) (by rfl) m__law_marks k__law_marks b__law_marks .nil pass0 (pa_cons (pv 3) pa_nil))))))), run_pure h fun f s es ha => ?_⟩
  obtain ⟨d1, d2, i, rfl⟩ := ha
  refine sd_asgI ed_c ?_
  refine sd_seq (M := fun _ δ' => (δ' = [.dat d1, .dat d2, .dat (.int i), .dat .none, .no] ∧ isPaintsD d1 = true ∧ isTurnD d2 = true) ∨ ∃ j C, j ∈ [9, 17] ∧ [c_NoBack, c_NoBase, c_NoChange, c_NoCounts, c_NoCube, c_NoCubes, c_NoFit, c_NoName, c_NoNumber, c_NoPaints, c_NoPalette, c_NoPaper, c_NoPlace, c_NoRow, c_NoSix, c_NoStock, c_NoText, c_NoTurn, c_NoWord, c_TooMany][j]? = some C ∧ δ' = [.dat d1, .dat d2, .dat (.int i), excE C, .no] ∧ dueD d1 d2 = [.str (MWORDS.getD j "")]) (sd_try fun f' W hpu hx => ?_) fun s' δ' h => ?_
  · have way : ∀ C, xTurnedX c_NoPaints c_NoTurn [.dat d1, .dat d2] C → PySem.W.exmOne K (.ref C) (.ref c_CubeError) = some true ∧ ∃ j C', j ∈ [9, 17] ∧ [c_NoBack, c_NoBase, c_NoChange, c_NoCounts, c_NoCube, c_NoCubes, c_NoFit, c_NoName, c_NoNumber, c_NoPaints, c_NoPalette, c_NoPaper, c_NoPlace, c_NoRow, c_NoSix, c_NoStock, c_NoText, c_NoTurn, c_NoWord, c_TooMany][j]? = some C' ∧ [En.dat d1, .dat d2, .dat (.int i), excE C, .no] = [.dat d1, .dat d2, .dat (.int i), excE C', .no] ∧ dueD d1 d2 = [.str (MWORDS.getD j "")] := by
      intro C r
      rcases r d1 d2 rfl with ⟨h1, rfl⟩ | ⟨h1, h2, rfl⟩
      · exact ⟨xm_P, 9, _, by decide, rfl, rfl, by unfold dueD; rw [h1]; rfl⟩
      · exact ⟨xm_T, 17, _, by decide, rfl, rfl, by unfold dueD; rw [h1, h2]; rfl⟩
    have fin : ∀ {s1 : Sx} {te : TE}, s1.own = [] → (∀ {P : Sx → En → Prop}, (∀ x, rTurnedX [.dat d1, .dat d2] x → P s1 x) → ED K f' s1 te [.dat d1, .dat d2, .dat (.int i), .dat .none, .no] P) → SD K f' s1 (tDrop te) [.dat d1, .dat d2, .dat (.int i), .dat .none, .no] ⟨fun s' δ' => s'.own = [] ∧ ((δ' = [.dat d1, .dat d2, .dat (.int i), .dat .none, .no] ∧ isPaintsD d1 = true ∧ isTurnD d2 = true) ∨ ∃ j C, j ∈ [9, 17] ∧ [c_NoBack, c_NoBase, c_NoChange, c_NoCounts, c_NoCube, c_NoCubes, c_NoFit, c_NoName, c_NoNumber, c_NoPaints, c_NoPalette, c_NoPaper, c_NoPlace, c_NoRow, c_NoSix, c_NoStock, c_NoText, c_NoTurn, c_NoWord, c_TooMany][j]? = some C ∧ δ' = [.dat d1, .dat d2, .dat (.int i), excE C, .no] ∧ dueD d1 d2 = [.str (MWORDS.getD j "")]), fun s' x => s'.own = [] ∧ fRef [.dat d1, .dat d2, .dat (.int i)] x, fun s' δ' => s'.own = [] ∧ False, fun s' δ' => s'.own = [] ∧ False⟩ := fun h0 h => sd_drop (P := fun s' _ => s'.own = [] ∧ isPaintsD d1 = true ∧ isTurnD d2 = true) (h fun x r => ⟨h0, r d1 d2 rfl⟩) fun s' x q => ⟨q.1, .inl ⟨rfl, q.2⟩⟩
    refine sd_if (et_test (ed_op (ed_var rfl) ed_c od_eqI)) (fun s1 q => ?_) (fun s1 q => ?_)
    · obtain ⟨rfl, _⟩ := q
      exact fin rfl fun k => ed_callX hx (ea_cons (ed_var rfl) (ea_cons (ed_var rfl) ea_nil)) ⟨d1, d2, rfl⟩ k fun C r => ⟨rfl, (way C r).1, .inr (way C r).2⟩
    · obtain ⟨rfl, _⟩ := q
      refine sd_if (et_test (ed_op (ed_var rfl) ed_c od_eqI)) (fun s1 q => ?_) (fun s1 q => ?_)
      · obtain ⟨rfl, _⟩ := q
        exact fin rfl fun k => ed_callKX hx (ea_cons (ed_var rfl) ea_nil) (ea_cons (ed_var rfl) ea_nil) [.dat d1, .dat d2] (fun G vs zs h1 h2 => by cases h1 with | cons p1 t1 => cases t1; cases h2 with | cons p2 t2 => cases t2; exact .cons p1 (.cons p2 .nil)) ⟨d1, d2, rfl⟩ k fun C r => ⟨rfl, (way C r).1, .inr (way C r).2⟩
      · obtain ⟨rfl, _⟩ := q
        exact fin rfl fun k => ed_callKX hx ea_nil (ea_cons (ed_var rfl) (ea_cons (ed_var rfl) ea_nil)) [.dat d1, .dat d2] (fun G vs zs h1 h2 => by cases h1; cases h2 with | cons p1 t1 => cases t1 with | cons p2 t2 => cases t2; exact .cons p2 (.cons p1 .nil)) ⟨d1, d2, rfl⟩ k fun C r => ⟨rfl, (way C r).1, .inr (way C r).2⟩
  · rcases h with ⟨rfl, h1, h2⟩ | ⟨j, C, hj, hC, rfl, hd⟩
    · refine sd_when (et_test (ed_op (ed_var rfl) ed_c (od_isNd rfl))) (fun s1 q => ?_) (fun s1 q => by cases q.2)
      obtain ⟨rfl, _⟩ := q
      refine sd_retI (ed_lst ea_nil rfl) fun a b c e => ?_
      cases e
      unfold dueD
      rw [h1, h2]
      rfl
    · refine sd_whenF (et_test (ed_op (ed_var rfl) ed_c (od_isNth excE_ne))) ?_
      refine sd_retI (ed_callE (ea_cons (ed_var rfl) ea_nil) ⟨j, C, hj, hC, rfl⟩ fun y r => r j C hj hC rfl) fun a b c e => ?_
      cases e
      rw [hd]
theorem ok_law {f : Addr} {fd : FuncData} (F : Fun K "law" "law" s_law f fd) {f_is_paints : Addr} {fd_is_paints : FuncData} (G_is_paints : FnOk P w K mg base CX0 3 f_is_paints fd_is_paints ["thing"] (spP K aAny fIsPaints)) (m_is_paints : mg "is_paints" = some (.ref f_is_paints)) (k_is_paints : PySem.W.keepIn K (.ref f_is_paints) = true) (b_is_paints : Binds K fd_is_paints ["thing"] []) (kb_is_paints_0_thing : KBinds K fd_is_paints ["thing"] ["thing"] kg_is_paints_0_thing kg_is_paints_0_thing) {f__law_purse : Addr} {fd__law_purse : FuncData} (G__law_purse : FnOk P w K mg base CX0 1 f__law_purse fd__law_purse ["_law_script"] (spPurse K)) (m__law_purse : mg "_law_purse" = some (.ref f__law_purse)) (k__law_purse : PySem.W.keepIn K (.ref f__law_purse) = true) (b__law_purse : Binds K fd__law_purse ["_law_script"] []) {f__law_draw : Addr} {fd__law_draw : FuncData} (G__law_draw : FnOk P w K mg base CX0 1 f__law_draw fd__law_draw ["_law_purse_here", "_law_out_of"] spDraw) (m__law_draw : mg "_law_draw" = some (.ref f__law_draw)) (k__law_draw : PySem.W.keepIn K (.ref f__law_draw) = true) (b__law_draw : Binds K fd__law_draw ["_law_purse_here", "_law_out_of"] []) {f__law_turns : Addr} {fd__law_turns : FuncData} (G__law_turns : FnOk P w K mg base CX0 2 f__law_turns fd__law_turns [] (spP K aNil fTurns)) (m__law_turns : mg "_law_turns" = some (.ref f__law_turns)) (k__law_turns : PySem.W.keepIn K (.ref f__law_turns) = true) (b__law_turns : Binds K fd__law_turns [] []) {f__law_coat : Addr} {fd__law_coat : FuncData} (G__law_coat : FnOk P w K mg base CX0 3 f__law_coat fd__law_coat ["_law_purse_here"] (spU K aCoat fCoatB)) (m__law_coat : mg "_law_coat" = some (.ref f__law_coat)) (k__law_coat : PySem.W.keepIn K (.ref f__law_coat) = true) (b__law_coat : Binds K fd__law_coat ["_law_purse_here"] []) {f__law_bent : Addr} {fd__law_bent : FuncData} (G__law_bent : FnOk P w K mg base CX0 2 f__law_bent fd__law_bent ["_law_purse_here", "_law_coat_here"] (spU K aBentC fBentC)) (m__law_bent : mg "_law_bent" = some (.ref f__law_bent)) (k__law_bent : PySem.W.keepIn K (.ref f__law_bent) = true) (b__law_bent : Binds K fd__law_bent ["_law_purse_here", "_law_coat_here"] []) {f__law_spoiled : Addr} {fd__law_spoiled : FuncData} (G__law_spoiled : FnOk P w K mg base CX0 3 f__law_spoiled fd__law_spoiled ["_law_purse_here", "_law_spun"] (spU K aBent fBent)) (m__law_spoiled : mg "_law_spoiled" = some (.ref f__law_spoiled)) (k__law_spoiled : PySem.W.keepIn K (.ref f__law_spoiled) = true) (b__law_spoiled : Binds K fd__law_spoiled ["_law_purse_here", "_law_spun"] []) {f__law_refused : Addr} {fd__law_refused : FuncData} (G__law_refused : FnOk P w K mg base CX0 6 f__law_refused fd__law_refused ["_law_coat_here", "_law_spun", "_law_way"] (spP K aRef fRef)) (m__law_refused : mg "_law_refused" = some (.ref f__law_refused)) (k__law_refused : PySem.W.keepIn K (.ref f__law_refused) = true) (b__law_refused : Binds K fd__law_refused ["_law_coat_here", "_law_spun", "_law_way"] []) {f__law_six : Addr} {fd__law_six : FuncData} (G__law_six : FnOk P w K mg base CX0 2 f__law_six fd__law_six ["_law_piece"] (spP K aAny fSix)) (m__law_six : mg "_law_six" = some (.ref f__law_six)) (k__law_six : PySem.W.keepIn K (.ref f__law_six) = true) (b__law_six : Binds K fd__law_six ["_law_piece"] []) (m_bool : mg "bool" = none) (m_int : mg "int" = none) (m_isinstance : mg "isinstance" = none) (m_min : mg "min" = none) (m_range : mg "range" = none) (m_str : mg "str" = none) : FnAt P w K mg base f fd "_law_script" (spLaw K) := by
  refine fnAt_of (k := 6) F sc_law ⟨rfl, by decide, by decide⟩ (fun vs H Q E h => ?_) (fun cdv s H vs Q E hr h => ?_)
  · obtain ⟨a, ns, rfl, _⟩ := h
    rfl
  · obtain ⟨a, ns, rfl, hS, hT, hl, hQ⟩ := h
    have hu := hr.units
    have hu5 := hu5_of hr
    refine ⟨_, (pss_cons (ps_set (i := 1) sc_law.nd rfl (Or.inl rfl) (pe_call G__law_purse (hr.mono (by decide)) (by rfl) m__law_purse k__law_purse b__law_purse .nil pass0 (pa_cons (pv 0) pa_nil)))
        (pss_cons (ps_set (i := 2) sc_law.nd rfl (Or.inl rfl) (pe_call0 G__law_turns (hr.mono (by decide)) (by rfl) m__law_turns k__law_turns b__law_turns .nil pass0))
        (pss_cons (ps_for PassesOwn.never rfl (pi_range1 (by rfl) m_range (pa_cons pe_int pa_nil)) (pg_name (i := 3) sc_law.nd rfl (Or.inl rfl)) (pss_cons (ps_set (i := 4) sc_law.nd rfl (Or.inl rfl) (pe_call G__law_bent (hr.mono (by decide)) (by rfl) m__law_bent k__law_bent b__law_bent .nil pass0 (pa_cons (pv 1) (pa_cons (pe_call G__law_coat (hr.mono (by decide)) (by rfl) m__law_coat k__law_coat b__law_coat .nil pass0 (pa_cons (pv 1) pa_nil)) pa_nil))))
        (pss_cons (ps_set (i := 5) sc_law.nd rfl (Or.inl rfl) (pe_call G__law_spoiled (hr.mono (by decide)) (by rfl) m__law_spoiled k__law_spoiled b__law_spoiled .nil pass0 (pa_cons (pv 1) (pa_cons (pe_ix ix_seq (pv 2) (pe_call G__law_draw (hr.mono (by decide)) (by rfl) m__law_draw k__law_draw b__law_draw .nil pass0 (pa_cons (pv 1) (pa_cons pe_int pa_nil))) (fun _ _ => rfl)) pa_nil))))
        (pss_cons (ps_set (i := 6) sc_law.nd rfl (Or.inl rfl) (pe_callTy (call_strD rfl hu) (by rfl) m_str (by decide +kernel) (pa_cons (pe_lst (pa_cons (pv 4) (pa_cons (pv 5) pa_nil))) pa_nil)))
        (pss_cons (ps_set (i := 7) sc_law.nd rfl (Or.inl rfl) (pe_and (pe_call G__law_six (hr.mono (by decide)) (by rfl) m__law_six k__law_six b__law_six .nil pass0 (pa_cons (pv 4) pa_nil)) (pe_one (pe_cmpR op_ge (pe_callB (cr_minT rfl) (by rfl) m_min (by decide +kernel) (pa_cons (pv 4) pa_nil)) pe_int (nomark _)))))
        (pss_cons (ps_for PassesOwn.never rfl (pi_list (pe_lst (pa_cons (pe_call G_is_paints (hr.mono (by decide)) (by rfl) m_is_paints k_is_paints b_is_paints .nil pass0 (pa_cons (pv 4) pa_nil)) (pa_cons (pe_callK0 G_is_paints (hr.mono (by decide)) (by rfl) m_is_paints k_is_paints kb_is_paints_0_thing pass0 (pk_cons (pv 4) pk_nil)) pa_nil)))) (pg_name (i := 8) sc_law.nd rfl (Or.inl rfl)) (pss_one (ps_if (PW.pt (pw_or (pt_not (pt_val (pe_callB call_isi (by rfl) m_isinstance (by decide +kernel) (pa_cons (pv 8) (pa_cons (pe_bltn (v := .ty "bool") (u := .type "bool") (by rfl) m_bool (by decide +kernel) rfl) pa_nil))))) (pw_or1 (pt_cmpR (op_neD hu) (pv 8) (pv 7) (nomark _))))) (pss_one (ps_ret pe_bl)) pss_nil)))
        (pss_cons (ps_set (i := 9) sc_law.nd rfl (Or.inl rfl) (pe_lst (pa_cons pe_str pa_nil)))
        (pss_cons (ps_if (pt_val (pv 7)) (pss_one (ps_set (i := 9) sc_law.nd rfl (Or.inl rfl) (pe_op op_rep (pe_lst (pa_cons pe_str pa_nil)) (pe_callTy call_int1 (by rfl) m_int (by decide +kernel) (pa_cons (pe_or (pe_not (pe_call G__law_six (hr.mono (by decide)) (by rfl) m__law_six k__law_six b__law_six .nil pass0 (pa_cons (pv 5) pa_nil))) (pe_one (pe_cmpR (op_notInD hu5) (pv 5) (pv 2) (by rfl)))) pa_nil))))) pss_nil)
        (pss_one (ps_if (PW.pt (pw_or (pt_cmpR (op_neD hu) (pe_call G__law_refused (hr.mono (by decide)) (by rfl) m__law_refused k__law_refused b__law_refused .nil pass0 (pa_cons (pv 4) (pa_cons (pv 5) (pa_cons (pe_call G__law_draw (hr.mono (by decide)) (by rfl) m__law_draw k__law_draw b__law_draw .nil pass0 (pa_cons (pv 1) (pa_cons pe_int pa_nil))) pa_nil)))) (pv 9) (nomark _)) (pw_or1 (pt_cmpR op_ne (pe_callTy (call_strD rfl hu) (by rfl) m_str (by decide +kernel) (pa_cons (pe_lst (pa_cons (pv 4) (pa_cons (pv 5) pa_nil))) pa_nil)) (pv 6) (nomark _))))) (pss_one (ps_ret pe_bl)) pss_nil))))))))))
        (pss_one (ps_ret pe_bl))))), ?_⟩
    refine run_law hS hT hl rfl (fun f p c hf => ?_) hQ
    refine sd_asgI (ed_callE ea_nil rfl fun y r => r) ?_
    refine sd_seq (M := fun _ _ => True) (sd_forR (n := 16) (ea_cons ed_c ea_nil) (by decide) (fun i s' δ' => ∃ n, 40 * (16 - i) ≤ n ∧ s' = ⟨n, []⟩ ∧ ∃ x3 x4 x5 x6 x7 x8 x9, δ' = [.no, .val (.ref p), .dat (.list (TURNS.map tupD)), x3, x4, x5, x6, x7, x8, x9]) ⟨2 ^ 60, by decide, rfl, .no, .no, .no, .no, .no, .no, .no, rfl⟩ ?_ (fun _ _ _ => trivial)) fun s' δ' _ => sd_retI ed_c rfl
    rintro i s' δ' hi ⟨n, hn, rfl, x3, x4, x5, x6, x7, x8, x9, rfl⟩
    obtain ⟨n, rfl⟩ : ∃ k, n = k + 40 := ⟨n - 40, by omega⟩
    refine sd_asgS (P := fun s' x => ∃ m, n + 21 ≤ m ∧ s' = ⟨m, []⟩ ∧ ∃ d, okN 3 d = true ∧ x = .dat d) (ed_callU hf rfl (ea_one (ed_callU (P := fun s' x => ∃ m, n + 24 ≤ m ∧ s' = ⟨m, []⟩ ∧ ∃ ns, PAB ns ∧ x = .dat (tupD ns)) hf rfl ea_nil ?_)) ?_) ?_
    · rintro s' es ⟨rfl, rfl⟩
      exact ⟨n + 40, [], rfl, ⟨by omega, rfl⟩, fun m x h => ⟨m, by have := h.1; omega, rfl, h.2⟩⟩
    · rintro s' es ⟨x, rfl, m, hm, rfl, ns, hp, rfl⟩
      exact ⟨m, [], rfl, ⟨by omega, ns, hp, rfl⟩, fun m' x h => ⟨m', by have := h.1; omega, rfl, h.2⟩⟩
    rintro s' x ⟨m, hm, rfl, d1, hd1, rfl⟩
    obtain ⟨m, rfl⟩ : ∃ k, m = k + 14 := ⟨m - 14, by omega⟩
    refine sd_asgS (P := fun s' x => ∃ m', m + 1 ≤ m' ∧ s' = ⟨m', []⟩ ∧ ∃ d, okN 3 d = true ∧ x = .dat d) (ed_callU hf rfl (ea_one (ed_pick hf rfl (ed_var rfl) (by decide) (by decide) (by decide))) ?_) ?_
    · rintro s' es ⟨x, rfl, rfl, d, hd, rfl⟩
      obtain ⟨t, ht, rfl⟩ := List.mem_map.mp hd
      exact ⟨m + 13, [], rfl, ⟨by omega, t, ht, rfl⟩, fun m' x h => ⟨m', by have := h.1; omega, rfl, h.2⟩⟩
    rintro s' x ⟨m', hm', rfl, d2, hd2, rfl⟩
    obtain ⟨m', rfl⟩ : ∃ k, m' = k + 1 := ⟨m' - 1, by omega⟩
    have hd4 : okN 4 (.list [d1, d2]) = true := okN_lst (Nat.le_of_ble_eq_true rfl) fun d hd => by
      simp only [List.mem_cons, List.not_mem_nil, or_false] at hd
      rcases hd with rfl | rfl
      · exact hd1
      · exact hd2
    have hsh2 : SeqAt.shaped d2 = true := okN_shaped hd2 (by decide)
    refine sd_asgI (ed_cb (ea_cons (ed_lst (ea_cons (ed_var rfl) (ea_cons (ed_var rfl) ea_nil)) rfl) ea_nil) (cd_strD hd4)) ?_
    refine sd_asgI (x := .dat (.bool (isPaintsD d1))) ?_ ?_
    · refine ed_and (ed_callE (ea_cons (ed_var rfl) ea_nil) ⟨d1, rfl⟩ fun y r => r d1 rfl) fun h6 => ?_
      cases d1 with
      | tuple ds =>
        have h6' := Bool.and_eq_true_iff.mp (show (_ && _) = true from h6)
        obtain ⟨ns, rfl⟩ := six_ints h6'.2
        have hl : ns.length = 6 := by
          have := h6'.1
          rw [List.length_map] at this
          simpa using this
        refine ed_opN (P2 := fun s1 _ => Is s1 (.dat (.int 0))) (ed_cb (ea_cons (ed_var rfl) ea_nil) (cd_minT (by omega))) (fun s1 x _ => ed_c) ?_
        rintro s1 x s2 y ⟨rfl, m, hm, hmin, rfl⟩ ⟨rfl, rfl⟩
        intro G H v u Q jj a b k
        refine od_I0 G H v u Q jj a b fun w' z s' G2 H2 e1 j1 o1 p1 => k w' z s' G2 H2 e1 j1 o1 ?_
        obtain ⟨rfl, rfl⟩ := p1
        refine ⟨rfl, ?_⟩
        show En.dat (.bool (decide (0 ≤ m))) = .dat (.bool ((ns.map PyData.int).all _))
        rw [List.all_map]
        congr 2
        rw [Bool.eq_iff_iff, decide_eq_true_eq, List.all_eq_true]
        exact ⟨fun h x hx => decide_eq_true (Int.le_trans h (hmin x hx)), fun h => of_decide_eq_true (h m hm)⟩
      | _ => cases h6
    refine sd_seq (M := fun s' δ' => s' = ⟨m' + 1, []⟩ ∧ ∃ x8 x9, δ' = [.no, .val (.ref p), .dat (.list (TURNS.map tupD)), .dat (.int (i : Int)), .dat d1, .dat d2, .dat (.str (strD (.list [d1, d2]))), .dat (.bool (isPaintsD d1)), x8, x9]) (sd_forL (ds := [.bool (isPaintsD d1), .bool (isPaintsD d1)]) (ed_lst (ea_cons (ed_callE (ea_cons (ed_var rfl) ea_nil) ⟨d1, rfl⟩ fun y r => r d1 rfl) (ea_cons (ed_callK ea_nil (ea_cons (ed_var rfl) ea_nil) [.dat d1] (fun G vs zs h1 h2 => by cases h1; cases h2 with | cons p1 t1 => cases t1; exact .cons p1 .nil) ⟨d1, rfl⟩ fun y r => ⟨rfl, r d1 rfl⟩) ea_nil)) rfl) (fun k s' δ' => s' = ⟨m' + 1, []⟩ ∧ ∃ x8 x9, δ' = [.no, .val (.ref p), .dat (.list (TURNS.map tupD)), .dat (.int (i : Int)), .dat d1, .dat d2, .dat (.str (strD (.list [d1, d2]))), .dat (.bool (isPaintsD d1)), x8, x9]) ⟨rfl, _, _, rfl⟩ ?_ (fun s' δ' h => h)) ?_
    · rintro k e s' δ' he ⟨rfl, x8, x9, rfl⟩
      have he' : e = .bool (isPaintsD d1) := by
        have := List.mem_of_getElem? he
        simpa using this
      subst he'
      refine sd_ifF (et_is (et_or (et_not (et_B (ed_isBool (ed_var rfl)))) fun _ => et_test (ed_op (ed_var rfl) (ed_var rfl) (od_neD rfl rfl))) ?_) (sd_next ⟨rfl, _, _, rfl⟩)
      cases isPaintsD d1 <;> simp [isBoolD, PyData.eqv]
    rintro s' δ' ⟨rfl, x8, x9, rfl⟩
    refine sd_asgI (ed_lst (ea_cons ed_c ea_nil) rfl) ?_
    refine sd_seq (M := fun s' δ' => s' = ⟨m' + 1, []⟩ ∧ δ' = [.no, .val (.ref p), .dat (.list (TURNS.map tupD)), .dat (.int (i : Int)), .dat d1, .dat d2, .dat (.str (strD (.list [d1, d2]))), .dat (.bool (isPaintsD d1)), x8, .dat (.list (dueD d1 d2))]) (sd_if (et_B (ed_var rfl)) (fun s1 q => ?_) (fun s1 q => ?_)) ?_
    · obtain ⟨rfl, hr⟩ := q
      refine sd_asg (P := Is ⟨m' + 1, []⟩ (.dat (.list (dueD d1 d2)))) (ed_ol (ol_is (ol_rep (k := if isTurnD d2 then 0 else 1) (ol_lst (ea_cons ed_c ea_nil) (by decide)) (fun q => ed_is (ed_cb (ea_cons (ed_or (ed_notV (ed_callE (ea_cons (ed_var rfl) ea_nil) ⟨d2, rfl⟩ fun y r => r d2 rfl)) fun _ => ed_op (ed_var rfl) (ed_var rfl) (od_notInD hsh2 (shaped_tups _))) ea_nil) cd_intB) ?_) (by split <;> decide) (by split <;> decide)) ?_)) fun s' x q => ?_
      · have e : (!isSixD d2 || !(TURNS.map tupD).any fun z => PyData.eqv z d2) = !isTurnD d2 := by
          show _ = !(isSixD d2 && (TURNS.map tupD).any fun z => PyData.eqv z d2)
          cases isSixD d2 <;> simp
        rw [e]
        cases isTurnD d2 <;> rfl
      · unfold dueD
        rw [← hr]
        cases isTurnD d2 <;> rfl
      · obtain ⟨rfl, rfl⟩ := q
        exact ⟨rfl, rfl⟩
    · obtain ⟨rfl, hr⟩ := q
      refine sd_next ⟨rfl, ?_⟩
      unfold dueD
      rw [← hr]
      rfl
    rintro s' δ' ⟨rfl, rfl⟩
    obtain ⟨sh, er⟩ := due_sh d1 d2
    refine sd_if (PT := fun s' b => s' = ⟨m', []⟩ ∧ b = false) (et_orN (PT := fun s' b => s' = ⟨m', []⟩ ∧ b = false) (et_testN (ed_opN (P := fun s' x => s' = ⟨m', []⟩ ∧ x = .dat (.list (dueD d1 d2))) (P2 := fun _ _ => Is ⟨m', []⟩ (.dat (.list (dueD d1 d2)))) (ed_callN (ea_consD (ed_var rfl) (ea_consD (ed_var rfl) (ea_one (ed_drawC hf rfl (by decide) (by decide))))) ?_) (fun s1 x q => by obtain ⟨rfl, _⟩ := q; exact ed_var rfl) ?_)) (fun s1 q => ?_) (fun s1 q => by cases q.2)) (fun s1 q => by cases q.2) (fun s1 q => ?_)
    · rintro s1 es ⟨r, rfl, r2, rfl, x, rfl, rfl, i', _, _, rfl⟩
      exact ⟨⟨d1, d2, i', rfl⟩, fun x h => ⟨rfl, h d1 d2 i' rfl⟩⟩
    · rintro s1 x s2 y ⟨rfl, rfl⟩ ⟨rfl, rfl⟩
      intro G H v u Q jj a b k
      refine od_neD sh sh G H v u Q jj a b fun w' z s' G2 H2 e1 j1 o1 p1 => k w' z s' G2 H2 e1 j1 o1 ?_
      obtain ⟨rfl, rfl⟩ := p1
      exact ⟨_, rfl, rfl, by rw [er]; rfl⟩
    · obtain ⟨rfl, _⟩ := q
      refine et_is (et_test (ed_op (ed_cb (ea_cons (ed_lst (ea_cons (ed_var rfl) (ea_cons (ed_var rfl) ea_nil)) rfl) ea_nil) (cd_strD hd4)) (ed_var rfl) od_neS)) ?_
      simp
    · obtain ⟨rfl, _⟩ := q
      exact sd_next ⟨m', by omega, rfl, _, _, _, _, _, _, _, rfl⟩
end
/-! ### what the top has written -/
theorem kbm_turned_1_turn {K : PySem.W.Frag} {f : Addr} {fd : FuncData} (F : Fun K "turned" "turned" s_turned f fd) : KBinds K fd ["paints", "turn"] ["turn"] kg_turned_1_turn kg_turned_1_turn := by
  obtain ⟨oc, od, kV, doc, pm, an, cdv, ct, osl, rfl, lk, hcd⟩ := F.ex
  refine ⟨fun s us ws _ hl => ?_, kr_turned_1_turn⟩
  unfold kg_turned_1_turn at hl ⊢
  split at hl
  · exact .of_eq rfl
  · cases hl
theorem kbm_turned_0_turn_paints {K : PySem.W.Frag} {f : Addr} {fd : FuncData} (F : Fun K "turned" "turned" s_turned f fd) : KBinds K fd ["paints", "turn"] ["turn", "paints"] kg_turned_0_turn_paints kg_turned_0_turn_paints := by
  obtain ⟨oc, od, kV, doc, pm, an, cdv, ct, osl, rfl, lk, hcd⟩ := F.ex
  refine ⟨fun s us ws _ hl => ?_, kr_turned_0_turn_paints⟩
  unfold kg_turned_0_turn_paints at hl ⊢
  split at hl
  · exact .of_eq rfl
  · cases hl
theorem kbm_is_paints_0_thing {K : PySem.W.Frag} {f : Addr} {fd : FuncData} (F : Fun K "is_paints" "is_paints" s_is_paints f fd) : KBinds K fd ["thing"] ["thing"] kg_is_paints_0_thing kg_is_paints_0_thing := by
  obtain ⟨oc, od, kV, doc, pm, an, cdv, ct, osl, rfl, lk, hcd⟩ := F.ex
  refine ⟨fun s us ws _ hl => ?_, kr_is_paints_0_thing⟩
  unfold kg_is_paints_0_thing at hl ⊢
  split at hl
  · exact .of_eq rfl
  · cases hl
theorem all_mk {l : PySem.W.OpenLaw} {w : World} {K : PySem.W.Frag} {h : Heap} {mg : Str → Option Value} {fa f0 f1 f2 f3 f4 f5 f6 f7 f8 f9 f10 f11 f12 f13 f14 f15 f16 f17 f18 f19 f20 dW c_CubeError c_NoBack c_NoBase c_NoChange c_NoCounts c_NoCube c_NoCubes c_NoFit c_NoName c_NoNumber c_NoPaints c_NoPalette c_NoPaper c_NoPlace c_NoRow c_NoSix c_NoStock c_NoText c_NoTurn c_NoWord c_TooMany : Addr} (X : K.In h) (G : h.Ns mainGlobals mg) (hfa : mg "law" = some (.ref fa))
    {od0 an0 od1 an1 od2 an2 od3 an3 od4 an4 od5 an5 od6 an6 od7 an7 od8 an8 od9 an9 od10 an10 od11 an11 od12 an12 od13 an13 od14 an14 od15 an15 od16 an16 od17 an17 od18 an18 od19 an19 od20 an20 : Option Addr} {sl0 sl1 sl2 sl3 sl4 sl5 sl6 sl7 sl8 sl9 sl10 sl11 sl12 sl13 sl14 sl15 sl16 sl17 sl18 sl19 sl20 : Array (Option Value)} {oc0 kV0 dc0 pm0 cd0 ct0 oc1 kV1 dc1 pm1 cd1 ct1 oc2 kV2 dc2 pm2 cd2 ct2 oc3 kV3 dc3 pm3 cd3 ct3 oc4 kV4 dc4 pm4 cd4 ct4 oc5 kV5 dc5 pm5 cd5 ct5 oc6 kV6 dc6 pm6 cd6 ct6 oc7 kV7 dc7 pm7 cd7 ct7 oc8 kV8 dc8 pm8 cd8 ct8 oc9 kV9 dc9 pm9 cd9 ct9 oc10 kV10 dc10 pm10 cd10 ct10 oc11 kV11 dc11 pm11 cd11 ct11 oc12 kV12 dc12 pm12 cd12 ct12 oc13 kV13 dc13 pm13 cd13 ct13 oc14 kV14 dc14 pm14 cd14 ct14 oc15 kV15 dc15 pm15 cd15 ct15 oc16 kV16 dc16 pm16 cd16 ct16 oc17 kV17 dc17 pm17 cd17 ct17 oc18 kV18 dc18 pm18 cd18 ct18 oc19 kV19 dc19 pm19 cd19 ct19 oc20 kV20 dc20 pm20 cd20 ct20 : Value}
    (a0 : PySem.W.nsIn K mainGlobals "is_whole" = some (some (.ref f0)))
    (l0 : K.lookup f0 = some ⟨oc0, od0, .func (PySem.W.fnOf "is_whole" "is_whole" (defArgs s_is_whole) (defBody s_is_whole) (defScope s_is_whole) .none kV0 dc0 pm0 an0 cd0 ct0), sl0⟩)
    (c0 : PySem.W.codeIn K cd0 "is_whole" = true)
    (k0 : PySem.W.keepIn K (.ref f0) = true)
    (a1 : PySem.W.nsIn K mainGlobals "are_six_whole" = some (some (.ref f1)))
    (l1 : K.lookup f1 = some ⟨oc1, od1, .func (PySem.W.fnOf "are_six_whole" "are_six_whole" (defArgs s_are_six_whole) (defBody s_are_six_whole) (defScope s_are_six_whole) .none kV1 dc1 pm1 an1 cd1 ct1), sl1⟩)
    (c1 : PySem.W.codeIn K cd1 "are_six_whole" = true)
    (k1 : PySem.W.keepIn K (.ref f1) = true)
    (a2 : PySem.W.nsIn K mainGlobals "is_turn" = some (some (.ref f2)))
    (l2 : K.lookup f2 = some ⟨oc2, od2, .func (PySem.W.fnOf "is_turn" "is_turn" (defArgs s_is_turn) (defBody s_is_turn) (defScope s_is_turn) .none kV2 dc2 pm2 an2 cd2 ct2), sl2⟩)
    (c2 : PySem.W.codeIn K cd2 "is_turn" = true)
    (k2 : PySem.W.keepIn K (.ref f2) = true)
    (a3 : PySem.W.nsIn K mainGlobals "check_turn" = some (some (.ref f3)))
    (l3 : K.lookup f3 = some ⟨oc3, od3, .func (PySem.W.fnOf "check_turn" "check_turn" (defArgs s_check_turn) (defBody s_check_turn) (defScope s_check_turn) .none kV3 dc3 pm3 an3 cd3 ct3), sl3⟩)
    (c3 : PySem.W.codeIn K cd3 "check_turn" = true)
    (k3 : PySem.W.keepIn K (.ref f3) = true)
    (a4 : PySem.W.nsIn K mainGlobals "is_paints" = some (some (.ref f4)))
    (l4 : K.lookup f4 = some ⟨oc4, od4, .func (PySem.W.fnOf "is_paints" "is_paints" (defArgs s_is_paints) (defBody s_is_paints) (defScope s_is_paints) .none kV4 dc4 pm4 an4 cd4 ct4), sl4⟩)
    (c4 : PySem.W.codeIn K cd4 "is_paints" = true)
    (k4 : PySem.W.keepIn K (.ref f4) = true)
    (a5 : PySem.W.nsIn K mainGlobals "check_paints" = some (some (.ref f5)))
    (l5 : K.lookup f5 = some ⟨oc5, od5, .func (PySem.W.fnOf "check_paints" "check_paints" (defArgs s_check_paints) (defBody s_check_paints) (defScope s_check_paints) .none kV5 dc5 pm5 an5 cd5 ct5), sl5⟩)
    (c5 : PySem.W.codeIn K cd5 "check_paints" = true)
    (k5 : PySem.W.keepIn K (.ref f5) = true)
    (a6 : PySem.W.nsIn K mainGlobals "look" = some (some (.ref f6)))
    (l6 : K.lookup f6 = some ⟨oc6, od6, .func (PySem.W.fnOf "look" "look" (defArgs s_look) (defBody s_look) (defScope s_look) .none kV6 dc6 pm6 an6 cd6 ct6), sl6⟩)
    (c6 : PySem.W.codeIn K cd6 "look" = true)
    (k6 : PySem.W.keepIn K (.ref f6) = true)
    (a7 : PySem.W.nsIn K mainGlobals "turned" = some (some (.ref f7)))
    (l7 : K.lookup f7 = some ⟨oc7, od7, .func (PySem.W.fnOf "turned" "turned" (defArgs s_turned) (defBody s_turned) (defScope s_turned) .none kV7 dc7 pm7 an7 cd7 ct7), sl7⟩)
    (c7 : PySem.W.codeIn K cd7 "turned" = true)
    (k7 : PySem.W.keepIn K (.ref f7) = true)
    (a8 : PySem.W.nsIn K mainGlobals "_law_purse" = some (some (.ref f8)))
    (l8 : K.lookup f8 = some ⟨oc8, od8, .func (PySem.W.fnOf "_law_purse" "_law_purse" (defArgs s__law_purse) (defBody s__law_purse) (defScope s__law_purse) .none kV8 dc8 pm8 an8 cd8 ct8), sl8⟩)
    (c8 : PySem.W.codeIn K cd8 "_law_purse" = true)
    (k8 : PySem.W.keepIn K (.ref f8) = true)
    (a9 : PySem.W.nsIn K mainGlobals "_law_draw" = some (some (.ref f9)))
    (l9 : K.lookup f9 = some ⟨oc9, od9, .func (PySem.W.fnOf "_law_draw" "_law_draw" (defArgs s__law_draw) (defBody s__law_draw) (defScope s__law_draw) .none kV9 dc9 pm9 an9 cd9 ct9), sl9⟩)
    (c9 : PySem.W.codeIn K cd9 "_law_draw" = true)
    (k9 : PySem.W.keepIn K (.ref f9) = true)
    (a10 : PySem.W.nsIn K mainGlobals "_law_whole" = some (some (.ref f10)))
    (l10 : K.lookup f10 = some ⟨oc10, od10, .func (PySem.W.fnOf "_law_whole" "_law_whole" (defArgs s__law_whole) (defBody s__law_whole) (defScope s__law_whole) .none kV10 dc10 pm10 an10 cd10 ct10), sl10⟩)
    (c10 : PySem.W.codeIn K cd10 "_law_whole" = true)
    (k10 : PySem.W.keepIn K (.ref f10) = true)
    (a11 : PySem.W.nsIn K mainGlobals "_law_mixed" = some (some (.ref f11)))
    (l11 : K.lookup f11 = some ⟨oc11, od11, .func (PySem.W.fnOf "_law_mixed" "_law_mixed" (defArgs s__law_mixed) (defBody s__law_mixed) (defScope s__law_mixed) .none kV11 dc11 pm11 an11 cd11 ct11), sl11⟩)
    (c11 : PySem.W.codeIn K cd11 "_law_mixed" = true)
    (k11 : PySem.W.keepIn K (.ref f11) = true)
    (a12 : PySem.W.nsIn K mainGlobals "_law_then" = some (some (.ref f12)))
    (l12 : K.lookup f12 = some ⟨oc12, od12, .func (PySem.W.fnOf "_law_then" "_law_then" (defArgs s__law_then) (defBody s__law_then) (defScope s__law_then) .none kV12 dc12 pm12 an12 cd12 ct12), sl12⟩)
    (c12 : PySem.W.codeIn K cd12 "_law_then" = true)
    (k12 : PySem.W.keepIn K (.ref f12) = true)
    (a13 : PySem.W.nsIn K mainGlobals "_law_turns" = some (some (.ref f13)))
    (l13 : K.lookup f13 = some ⟨oc13, od13, .func (PySem.W.fnOf "_law_turns" "_law_turns" (defArgs s__law_turns) (defBody s__law_turns) (defScope s__law_turns) .none kV13 dc13 pm13 an13 cd13 ct13), sl13⟩)
    (c13 : PySem.W.codeIn K cd13 "_law_turns" = true)
    (k13 : PySem.W.keepIn K (.ref f13) = true)
    (a14 : PySem.W.nsIn K mainGlobals "_law_coat" = some (some (.ref f14)))
    (l14 : K.lookup f14 = some ⟨oc14, od14, .func (PySem.W.fnOf "_law_coat" "_law_coat" (defArgs s__law_coat) (defBody s__law_coat) (defScope s__law_coat) .none kV14 dc14 pm14 an14 cd14 ct14), sl14⟩)
    (c14 : PySem.W.codeIn K cd14 "_law_coat" = true)
    (k14 : PySem.W.keepIn K (.ref f14) = true)
    (a15 : PySem.W.nsIn K mainGlobals "_law_bent" = some (some (.ref f15)))
    (l15 : K.lookup f15 = some ⟨oc15, od15, .func (PySem.W.fnOf "_law_bent" "_law_bent" (defArgs s__law_bent) (defBody s__law_bent) (defScope s__law_bent) .none kV15 dc15 pm15 an15 cd15 ct15), sl15⟩)
    (c15 : PySem.W.codeIn K cd15 "_law_bent" = true)
    (k15 : PySem.W.keepIn K (.ref f15) = true)
    (a16 : PySem.W.nsIn K mainGlobals "_law_spoiled" = some (some (.ref f16)))
    (l16 : K.lookup f16 = some ⟨oc16, od16, .func (PySem.W.fnOf "_law_spoiled" "_law_spoiled" (defArgs s__law_spoiled) (defBody s__law_spoiled) (defScope s__law_spoiled) .none kV16 dc16 pm16 an16 cd16 ct16), sl16⟩)
    (c16 : PySem.W.codeIn K cd16 "_law_spoiled" = true)
    (k16 : PySem.W.keepIn K (.ref f16) = true)
    (a17 : PySem.W.nsIn K mainGlobals "_law_marks" = some (some (.ref f17)))
    (l17 : K.lookup f17 = some ⟨oc17, od17, .func (PySem.W.fnOf "_law_marks" "_law_marks" (defArgs s__law_marks) (defBody s__law_marks) (defScope s__law_marks) .none kV17 dc17 pm17 an17 cd17 ct17), sl17⟩)
    (c17 : PySem.W.codeIn K cd17 "_law_marks" = true)
    (k17 : PySem.W.keepIn K (.ref f17) = true)
    (a18 : PySem.W.nsIn K mainGlobals "_law_refused" = some (some (.ref f18)))
    (l18 : K.lookup f18 = some ⟨oc18, od18, .func (PySem.W.fnOf "_law_refused" "_law_refused" (defArgs s__law_refused) (defBody s__law_refused) (defScope s__law_refused) .none kV18 dc18 pm18 an18 cd18 ct18), sl18⟩)
    (c18 : PySem.W.codeIn K cd18 "_law_refused" = true)
    (k18 : PySem.W.keepIn K (.ref f18) = true)
    (a19 : PySem.W.nsIn K mainGlobals "_law_six" = some (some (.ref f19)))
    (l19 : K.lookup f19 = some ⟨oc19, od19, .func (PySem.W.fnOf "_law_six" "_law_six" (defArgs s__law_six) (defBody s__law_six) (defScope s__law_six) .none kV19 dc19 pm19 an19 cd19 ct19), sl19⟩)
    (c19 : PySem.W.codeIn K cd19 "_law_six" = true)
    (k19 : PySem.W.keepIn K (.ref f19) = true)
    (a20 : PySem.W.nsIn K mainGlobals "law" = some (some (.ref f20)))
    (l20 : K.lookup f20 = some ⟨oc20, od20, .func (PySem.W.fnOf "law" "law" (defArgs s_law) (defBody s_law) (defScope s_law) .none kV20 dc20 pm20 an20 cd20 ct20), sl20⟩)
    (c20 : PySem.W.codeIn K cd20 "law" = true)
    (k20 : PySem.W.keepIn K (.ref f20) = true)
    (z_ValueError : PySem.W.nsIn K mainGlobals "ValueError" = some none)
    (z_abs : PySem.W.nsIn K mainGlobals "abs" = some none)
    (z_all : PySem.W.nsIn K mainGlobals "all" = some none)
    (z_bool : PySem.W.nsIn K mainGlobals "bool" = some none)
    (z_int : PySem.W.nsIn K mainGlobals "int" = some none)
    (z_isinstance : PySem.W.nsIn K mainGlobals "isinstance" = some none)
    (z_len : PySem.W.nsIn K mainGlobals "len" = some none)
    (z_list : PySem.W.nsIn K mainGlobals "list" = some none)
    (z_min : PySem.W.nsIn K mainGlobals "min" = some none)
    (z_range : PySem.W.nsIn K mainGlobals "range" = some none)
    (z_sorted : PySem.W.nsIn K mainGlobals "sorted" = some none)
    (z_str : PySem.W.nsIn K mainGlobals "str" = some none)
    (z_tuple : PySem.W.nsIn K mainGlobals "tuple" = some none)
    (z_zip : PySem.W.nsIn K mainGlobals "zip" = some none)
    (aW : PySem.W.nsIn K mainGlobals "WORDS" = some (some (.ref dW)))
    (tW : tabOk K dW WTAB = true)
    (n_CubeError : PySem.W.nsIn K mainGlobals "CubeError" = some (some (.ref c_CubeError)))
    (n_NoBack : PySem.W.nsIn K mainGlobals "NoBack" = some (some (.ref c_NoBack)))
    (n_NoBase : PySem.W.nsIn K mainGlobals "NoBase" = some (some (.ref c_NoBase)))
    (n_NoChange : PySem.W.nsIn K mainGlobals "NoChange" = some (some (.ref c_NoChange)))
    (n_NoCounts : PySem.W.nsIn K mainGlobals "NoCounts" = some (some (.ref c_NoCounts)))
    (n_NoCube : PySem.W.nsIn K mainGlobals "NoCube" = some (some (.ref c_NoCube)))
    (n_NoCubes : PySem.W.nsIn K mainGlobals "NoCubes" = some (some (.ref c_NoCubes)))
    (n_NoFit : PySem.W.nsIn K mainGlobals "NoFit" = some (some (.ref c_NoFit)))
    (n_NoName : PySem.W.nsIn K mainGlobals "NoName" = some (some (.ref c_NoName)))
    (n_NoNumber : PySem.W.nsIn K mainGlobals "NoNumber" = some (some (.ref c_NoNumber)))
    (n_NoPaints : PySem.W.nsIn K mainGlobals "NoPaints" = some (some (.ref c_NoPaints)))
    (n_NoPalette : PySem.W.nsIn K mainGlobals "NoPalette" = some (some (.ref c_NoPalette)))
    (n_NoPaper : PySem.W.nsIn K mainGlobals "NoPaper" = some (some (.ref c_NoPaper)))
    (n_NoPlace : PySem.W.nsIn K mainGlobals "NoPlace" = some (some (.ref c_NoPlace)))
    (n_NoRow : PySem.W.nsIn K mainGlobals "NoRow" = some (some (.ref c_NoRow)))
    (n_NoSix : PySem.W.nsIn K mainGlobals "NoSix" = some (some (.ref c_NoSix)))
    (n_NoStock : PySem.W.nsIn K mainGlobals "NoStock" = some (some (.ref c_NoStock)))
    (n_NoText : PySem.W.nsIn K mainGlobals "NoText" = some (some (.ref c_NoText)))
    (n_NoTurn : PySem.W.nsIn K mainGlobals "NoTurn" = some (some (.ref c_NoTurn)))
    (n_NoWord : PySem.W.nsIn K mainGlobals "NoWord" = some (some (.ref c_NoWord)))
    (n_TooMany : PySem.W.nsIn K mainGlobals "TooMany" = some (some (.ref c_TooMany)))
    (r_NoPaints : raiB K c_NoPaints c_CubeError = true)
    (r_NoTurn : raiB K c_NoTurn c_CubeError = true)
    (hM : markB K [c_NoBack, c_NoBase, c_NoChange, c_NoCounts, c_NoCube, c_NoCubes, c_NoFit, c_NoName, c_NoNumber, c_NoPaints, c_NoPalette, c_NoPaper, c_NoPlace, c_NoRow, c_NoSix, c_NoStock, c_NoText, c_NoTurn, c_NoWord, c_TooMany] [9, 17] = true) :
    ∃ fd : FuncData, (∀ (s : Shared) (v : Value), BindsTo s fd ⟨[v], []⟩ [("_law_script", v)]) ∧ ∀ base : Heap, K.In base → base.Ns mainGlobals mg → FnAt l.prog w K mg base fa fd "_law_script" (spLaw K) := by
  have e := hfa.symm.trans (PySem.W.mg_of X G a20)
  cases e
  have F0 := fun_mk (st := s_is_whole) l0 c0 k0
  have b0 := F0.binds (ps := ["thing"]) fun _ _ _ _ _ _ us hl => match us, hl with | [_], _ => rfl
  have M0 := PySem.W.mg_of X G a0
  have F1 := fun_mk (st := s_are_six_whole) l1 c1 k1
  have b1 := F1.binds (ps := ["thing"]) fun _ _ _ _ _ _ us hl => match us, hl with | [_], _ => rfl
  have M1 := PySem.W.mg_of X G a1
  have F2 := fun_mk (st := s_is_turn) l2 c2 k2
  have b2 := F2.binds (ps := ["thing"]) fun _ _ _ _ _ _ us hl => match us, hl with | [_], _ => rfl
  have M2 := PySem.W.mg_of X G a2
  have F3 := fun_mk (st := s_check_turn) l3 c3 k3
  have b3 := F3.binds (ps := ["turn"]) fun _ _ _ _ _ _ us hl => match us, hl with | [_], _ => rfl
  have M3 := PySem.W.mg_of X G a3
  have F4 := fun_mk (st := s_is_paints) l4 c4 k4
  have b4 := F4.binds (ps := ["thing"]) fun _ _ _ _ _ _ us hl => match us, hl with | [_], _ => rfl
  have M4 := PySem.W.mg_of X G a4
  have F5 := fun_mk (st := s_check_paints) l5 c5 k5
  have b5 := F5.binds (ps := ["paints"]) fun _ _ _ _ _ _ us hl => match us, hl with | [_], _ => rfl
  have M5 := PySem.W.mg_of X G a5
  have F6 := fun_mk (st := s_look) l6 c6 k6
  have b6 := F6.binds (ps := ["paints", "turn"]) fun _ _ _ _ _ _ us hl => match us, hl with | [_, _], _ => rfl
  have M6 := PySem.W.mg_of X G a6
  have F7 := fun_mk (st := s_turned) l7 c7 k7
  have b7 := F7.binds (ps := ["paints", "turn"]) fun _ _ _ _ _ _ us hl => match us, hl with | [_, _], _ => rfl
  have M7 := PySem.W.mg_of X G a7
  have F8 := fun_mk (st := s__law_purse) l8 c8 k8
  have b8 := F8.binds (ps := ["_law_script"]) fun _ _ _ _ _ _ us hl => match us, hl with | [_], _ => rfl
  have M8 := PySem.W.mg_of X G a8
  have F9 := fun_mk (st := s__law_draw) l9 c9 k9
  have b9 := F9.binds (ps := ["_law_purse_here", "_law_out_of"]) fun _ _ _ _ _ _ us hl => match us, hl with | [_, _], _ => rfl
  have M9 := PySem.W.mg_of X G a9
  have F10 := fun_mk (st := s__law_whole) l10 c10 k10
  have b10 := F10.binds (ps := ["_law_piece"]) fun _ _ _ _ _ _ us hl => match us, hl with | [_], _ => rfl
  have M10 := PySem.W.mg_of X G a10
  have F11 := fun_mk (st := s__law_mixed) l11 c11 k11
  have b11 := F11.binds (ps := ["_law_purse_here", "_law_some"]) fun _ _ _ _ _ _ us hl => match us, hl with | [_, _], _ => rfl
  have M11 := PySem.W.mg_of X G a11
  have F12 := fun_mk (st := s__law_then) l12 c12 k12
  have b12 := F12.binds (ps := ["_law_first", "_law_second"]) fun _ _ _ _ _ _ us hl => match us, hl with | [_, _], _ => rfl
  have M12 := PySem.W.mg_of X G a12
  have F13 := fun_mk (st := s__law_turns) l13 c13 k13
  have b13 := F13.binds (ps := []) fun _ _ _ _ _ _ us hl => match us, hl with | [], _ => rfl
  have M13 := PySem.W.mg_of X G a13
  have F14 := fun_mk (st := s__law_coat) l14 c14 k14
  have b14 := F14.binds (ps := ["_law_purse_here"]) fun _ _ _ _ _ _ us hl => match us, hl with | [_], _ => rfl
  have M14 := PySem.W.mg_of X G a14
  have F15 := fun_mk (st := s__law_bent) l15 c15 k15
  have b15 := F15.binds (ps := ["_law_purse_here", "_law_coat_here"]) fun _ _ _ _ _ _ us hl => match us, hl with | [_, _], _ => rfl
  have M15 := PySem.W.mg_of X G a15
  have F16 := fun_mk (st := s__law_spoiled) l16 c16 k16
  have b16 := F16.binds (ps := ["_law_purse_here", "_law_spun"]) fun _ _ _ _ _ _ us hl => match us, hl with | [_, _], _ => rfl
  have M16 := PySem.W.mg_of X G a16
  have F17 := fun_mk (st := s__law_marks) l17 c17 k17
  have b17 := F17.binds (ps := ["_law_caught"]) fun _ _ _ _ _ _ us hl => match us, hl with | [_], _ => rfl
  have M17 := PySem.W.mg_of X G a17
  have F18 := fun_mk (st := s__law_refused) l18 c18 k18
  have b18 := F18.binds (ps := ["_law_coat_here", "_law_spun", "_law_way"]) fun _ _ _ _ _ _ us hl => match us, hl with | [_, _, _], _ => rfl
  have M18 := PySem.W.mg_of X G a18
  have F19 := fun_mk (st := s__law_six) l19 c19 k19
  have b19 := F19.binds (ps := ["_law_piece"]) fun _ _ _ _ _ _ us hl => match us, hl with | [_], _ => rfl
  have M19 := PySem.W.mg_of X G a19
  have F20 := fun_mk (st := s_law) l20 c20 k20
  have b20 := F20.binds (ps := ["_law_script"]) fun _ _ _ _ _ _ us hl => match us, hl with | [_], _ => rfl
  have M20 := PySem.W.mg_of X G a20
  have m_ValueError := PySem.W.mg_none_of X G z_ValueError
  have m_abs := PySem.W.mg_none_of X G z_abs
  have m_all := PySem.W.mg_none_of X G z_all
  have m_bool := PySem.W.mg_none_of X G z_bool
  have m_int := PySem.W.mg_none_of X G z_int
  have m_isinstance := PySem.W.mg_none_of X G z_isinstance
  have m_len := PySem.W.mg_none_of X G z_len
  have m_list := PySem.W.mg_none_of X G z_list
  have m_min := PySem.W.mg_none_of X G z_min
  have m_range := PySem.W.mg_none_of X G z_range
  have m_sorted := PySem.W.mg_none_of X G z_sorted
  have m_str := PySem.W.mg_none_of X G z_str
  have m_tuple := PySem.W.mg_none_of X G z_tuple
  have m_zip := PySem.W.mg_none_of X G z_zip
  have mc_WORDS := PySem.W.mg_of X G aW
  have T_WORDS : Tab K dW WTAB := ⟨tW, wtab_nd⟩
  have mc_CubeError := PySem.W.mg_of X G n_CubeError
  have mc_NoBack := PySem.W.mg_of X G n_NoBack
  have mc_NoBase := PySem.W.mg_of X G n_NoBase
  have mc_NoChange := PySem.W.mg_of X G n_NoChange
  have mc_NoCounts := PySem.W.mg_of X G n_NoCounts
  have mc_NoCube := PySem.W.mg_of X G n_NoCube
  have mc_NoCubes := PySem.W.mg_of X G n_NoCubes
  have mc_NoFit := PySem.W.mg_of X G n_NoFit
  have mc_NoName := PySem.W.mg_of X G n_NoName
  have mc_NoNumber := PySem.W.mg_of X G n_NoNumber
  have mc_NoPaints := PySem.W.mg_of X G n_NoPaints
  have mc_NoPalette := PySem.W.mg_of X G n_NoPalette
  have mc_NoPaper := PySem.W.mg_of X G n_NoPaper
  have mc_NoPlace := PySem.W.mg_of X G n_NoPlace
  have mc_NoRow := PySem.W.mg_of X G n_NoRow
  have mc_NoSix := PySem.W.mg_of X G n_NoSix
  have mc_NoStock := PySem.W.mg_of X G n_NoStock
  have mc_NoText := PySem.W.mg_of X G n_NoText
  have mc_NoTurn := PySem.W.mg_of X G n_NoTurn
  have mc_NoWord := PySem.W.mg_of X G n_NoWord
  have mc_TooMany := PySem.W.mg_of X G n_TooMany
  have R_NoPaints := (rai_of mc_NoPaints r_NoPaints).1
  have xm_NoPaints := (rai_of mc_NoPaints r_NoPaints).2
  have R_NoTurn := (rai_of mc_NoTurn r_NoTurn).1
  have xm_NoTurn := (rai_of mc_NoTurn r_NoTurn).2
  refine ⟨PySem.W.fnOf "law" "law" (defArgs s_law) (defBody s_law) (defScope s_law) .none kV20 dc20 pm20 an20 cd20 ct20, fun s v => .of_eq rfl, fun base _ _ => ?_⟩
  have G0 := ok_is_whole (P := l.prog) (w := w) (base := base) F0 m_bool m_int m_isinstance
  have G1 := ok_are_six_whole (P := l.prog) (w := w) (base := base) F1 G0 M0 k0 b0 m_all m_isinstance m_len m_tuple
  have G2 := ok_is_turn (P := l.prog) (w := w) (base := base) F2 G1 M1 k1 b1 mc_WORDS T_WORDS
  have G3 := ok_check_turn (P := l.prog) (w := w) (base := base) F3 G2 M2 k2 b2 R_NoTurn
  have G4 := ok_is_paints (P := l.prog) (w := w) (base := base) F4 G1 M1 k1 b1 m_min
  have G5 := ok_check_paints (P := l.prog) (w := w) (base := base) F5 G4 M4 k4 b4 R_NoPaints
  have G6 := ok_look (P := l.prog) (w := w) (base := base) F6 m_tuple m_zip
  have G7 := ok_turned (P := l.prog) (w := w) (base := base) F7 G3 M3 k3 b3 G5 M5 k5 b5 G6 M6 k6 b6
  have G8 := ok_purse (P := l.prog) (w := w) (base := base) F8 m_range m_len m_abs
  have G9 := ok_draw (P := l.prog) (w := w) (base := base) F9 m_len
  have G10 := ok__law_whole (P := l.prog) (w := w) (base := base) F10 m_bool m_int m_isinstance
  have G11 := ok__law_mixed (P := l.prog) (w := w) (base := base) F11 G9 M9 k9 b9 m_len m_list
  have G12 := ok__law_then (P := l.prog) (w := w) (base := base) F12 m_tuple
  have G13 := ok__law_turns (P := l.prog) (w := w) (base := base) F13 G12 M12 k12 b12 m_len m_sorted
  have G14 := ok__law_coat (P := l.prog) (w := w) (base := base) F14 G9 M9 k9 b9 G11 M11 k11 b11 m_list m_range m_tuple
  have G15 := ok__law_bent (P := l.prog) (w := w) (base := base) F15 G9 M9 k9 b9 m_list
  have G16 := ok__law_spoiled (P := l.prog) (w := w) (base := base) F16 G9 M9 k9 b9 G11 M11 k11 b11 m_int m_list m_range m_tuple
  have G17 := ok__law_marks (P := l.prog) (w := w) (base := base) F17 m_ValueError m_int m_isinstance m_zip mc_NoBack mc_NoBase mc_NoChange mc_NoCounts mc_NoCube mc_NoCubes mc_NoFit mc_NoName mc_NoNumber mc_NoPaints mc_NoPalette mc_NoPaper mc_NoPlace mc_NoRow mc_NoSix mc_NoStock mc_NoText mc_NoTurn mc_NoWord mc_TooMany hM
  have G18 := ok__law_refused (P := l.prog) (w := w) (base := base) F18 G7 M7 k7 b7 (kbm_turned_1_turn F7) (kbm_turned_0_turn_paints F7) G17 M17 k17 b17 mc_CubeError xm_NoPaints xm_NoTurn
  have G19 := ok__law_six (P := l.prog) (w := w) (base := base) F19 G10 M10 k10 b10 m_all m_isinstance m_len m_tuple
  have G20 := ok_law (P := l.prog) (w := w) (base := base) F20 G4 M4 k4 b4 (kbm_is_paints_0_thing F4) G8 M8 k8 b8 G9 M9 k9 b9 G13 M13 k13 b13 G14 M14 k14 b14 G15 M15 k15 b15 G16 M16 k16 b16 G18 M18 k18 b18 G19 M19 k19 b19 m_bool m_int m_isinstance m_min m_range m_str
  exact G20
end My
open PySem PySem.W PyProof.Rows
set_option maxRecDepth 100000 in
set_option maxHeartbeats 0 in
theorem PySem.Challenge.cw_thirtycubes_k07_paints_looked_at_holds : PySem.Challenge.rw_thirtycubes_k07_paints_looked_at.Holds := by
  w_on; o_law; k_head; (case hw => w_witness2)
  k_fill
  refine Dl.walk_at (l := PySem.Challenge.rw_thirtycubes_k07_paints_looked_at) (n := 63) (x := "_law_script") (sp := fun w => My.spLaw _) rfl (by decide) rfl (fun w h Y => PySem.W.kIn_of Y) ?F (fun _ _ a ns hl hO hS => ⟨a, ns, rfl, hS, Dl.TF.only hO, hl, fun _ => rfl⟩)
  case F =>
    intro w mg fa h KX G hmg
    refine' My.all_mk KX G hmg ?a0 ?l0 ?c0 ?k0 ?a1 ?l1 ?c1 ?k1 ?a2 ?l2 ?c2 ?k2 ?a3 ?l3 ?c3 ?k3 ?a4 ?l4 ?c4 ?k4 ?a5 ?l5 ?c5 ?k5 ?a6 ?l6 ?c6 ?k6 ?a7 ?l7 ?c7 ?k7 ?a8 ?l8 ?c8 ?k8 ?a9 ?l9 ?c9 ?k9 ?a10 ?l10 ?c10 ?k10 ?a11 ?l11 ?c11 ?k11 ?a12 ?l12 ?c12 ?k12 ?a13 ?l13 ?c13 ?k13 ?a14 ?l14 ?c14 ?k14 ?a15 ?l15 ?c15 ?k15 ?a16 ?l16 ?c16 ?k16 ?a17 ?l17 ?c17 ?k17 ?a18 ?l18 ?c18 ?k18 ?a19 ?l19 ?c19 ?k19 ?a20 ?l20 ?c20 ?k20 ?z_ValueError ?z_abs ?z_all ?z_bool ?z_int ?z_isinstance ?z_len ?z_list ?z_min ?z_range ?z_sorted ?z_str ?z_tuple ?z_zip ?aW ?tW ?n_CubeError ?n_NoBack ?n_NoBase ?n_NoChange ?n_NoCounts ?n_NoCube ?n_NoCubes ?n_NoFit ?n_NoName ?n_NoNumber ?n_NoPaints ?n_NoPalette ?n_NoPaper ?n_NoPlace ?n_NoRow ?n_NoSix ?n_NoStock ?n_NoText ?n_NoTurn ?n_NoWord ?n_TooMany ?r_NoPaints ?r_NoTurn ?hM
    (case a0 => k_is)
    (case l0 => k_is)
    (case c0 => k_is)
    (case k0 => k_is)
    (case a1 => k_is)
    (case l1 => k_is)
    (case c1 => k_is)
    (case k1 => k_is)
    (case a2 => k_is)
    (case l2 => k_is)
    (case c2 => k_is)
    (case k2 => k_is)
    (case a3 => k_is)
    (case l3 => k_is)
    (case c3 => k_is)
    (case k3 => k_is)
    (case a4 => k_is)
    (case l4 => k_is)
    (case c4 => k_is)
    (case k4 => k_is)
    (case a5 => k_is)
    (case l5 => k_is)
    (case c5 => k_is)
    (case k5 => k_is)
    (case a6 => k_is)
    (case l6 => k_is)
    (case c6 => k_is)
    (case k6 => k_is)
    (case a7 => k_is)
    (case l7 => k_is)
    (case c7 => k_is)
    (case k7 => k_is)
    (case a8 => k_is)
    (case l8 => k_is)
    (case c8 => k_is)
    (case k8 => k_is)
    (case a9 => k_is)
    (case l9 => k_is)
    (case c9 => k_is)
    (case k9 => k_is)
    (case a10 => k_is)
    (case l10 => k_is)
    (case c10 => k_is)
    (case k10 => k_is)
    (case a11 => k_is)
    (case l11 => k_is)
    (case c11 => k_is)
    (case k11 => k_is)
    (case a12 => k_is)
    (case l12 => k_is)
    (case c12 => k_is)
    (case k12 => k_is)
    (case a13 => k_is)
    (case l13 => k_is)
    (case c13 => k_is)
    (case k13 => k_is)
    (case a14 => k_is)
    (case l14 => k_is)
    (case c14 => k_is)
    (case k14 => k_is)
    (case a15 => k_is)
    (case l15 => k_is)
    (case c15 => k_is)
    (case k15 => k_is)
    (case a16 => k_is)
    (case l16 => k_is)
    (case c16 => k_is)
    (case k16 => k_is)
    (case a17 => k_is)
    (case l17 => k_is)
    (case c17 => k_is)
    (case k17 => k_is)
    (case a18 => k_is)
    (case l18 => k_is)
    (case c18 => k_is)
    (case k18 => k_is)
    (case a19 => k_is)
    (case l19 => k_is)
    (case c19 => k_is)
    (case k19 => k_is)
    (case a20 => k_is)
    (case l20 => k_is)
    (case c20 => k_is)
    (case k20 => k_is)
    (case z_ValueError => k_is)
    (case z_abs => k_is)
    (case z_all => k_is)
    (case z_bool => k_is)
    (case z_int => k_is)
    (case z_isinstance => k_is)
    (case z_len => k_is)
    (case z_list => k_is)
    (case z_min => k_is)
    (case z_range => k_is)
    (case z_sorted => k_is)
    (case z_str => k_is)
    (case z_tuple => k_is)
    (case z_zip => k_is)
    (case aW => k_is)
    (case n_CubeError => k_is)
    (case n_NoBack => k_is)
    (case n_NoBase => k_is)
    (case n_NoChange => k_is)
    (case n_NoCounts => k_is)
    (case n_NoCube => k_is)
    (case n_NoCubes => k_is)
    (case n_NoFit => k_is)
    (case n_NoName => k_is)
    (case n_NoNumber => k_is)
    (case n_NoPaints => k_is)
    (case n_NoPalette => k_is)
    (case n_NoPaper => k_is)
    (case n_NoPlace => k_is)
    (case n_NoRow => k_is)
    (case n_NoSix => k_is)
    (case n_NoStock => k_is)
    (case n_NoText => k_is)
    (case n_NoTurn => k_is)
    (case n_NoWord => k_is)
    (case n_TooMany => k_is)
    (case tW => kernel_rfl)
    (case r_NoPaints => kernel_rfl)
    (case r_NoTurn => kernel_rfl)
    (case hM => kernel_rfl)
