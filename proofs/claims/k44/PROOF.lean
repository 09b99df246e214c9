import PyProof.Rows.All
import Wide.All
import OpenK.AllK
import Wide.FinOn
import HandS.ForMost
import HandS.Flow
import HandS.Style
import HandS.StrMore
import HandS.IsInst
import HandS.Zip
import HandS.Conv
import HandS.Walk
import HandS.SetBool
import HandS.Strs
import HandS.SetTxt0
import PyProof.Rows.SetFrom
import KE.GoesMore
import PyProof.FactsAll.subtypes_4
import PyProof.Rows.SortShellAny
import PyProof.Rows.SortStr
import PyProof.Rows.CountFlat
import HandS.More
import HandS.TupAny
import PySem.Challenge.RW_threadmark_k44_sums_of_lists
set_option Elab.async false
set_option linter.all false
set_option maxRecDepth 100000
/-! The part that every law of this program shares: heaps, the bag, a few rules. -/
namespace Tm
open PySem PySem.Spec PyProof.Rows L2

/-! ### heaps: all but the object at b is as it was -/
def Kp (b : Addr) (H H' : Hp) : Prop := ∀ p o, p ≠ b → H p = some o → H' p = some o
theorem Kp.refl (b : Addr) (H : Hp) : Kp b H H := fun _ _ _ h => h
theorem Kp.trans {b : Addr} {H H1 H2 : Hp} (x : Kp b H H1) (y : Kp b H1 H2) : Kp b H H2 := fun p o n h => y p o n (x p o n h)
theorem Kp.of_same {b : Addr} {H H' : Hp} (s : Same H H') : Kp b H H' := fun p o _ h => s p o h
theorem Kp.set {b : Addr} {H : Hp} {o : HO} : Kp b H (upd H b o) := fun p u n h => by rw [upd_ne n]; exact h
theorem Kp.new {b q : Addr} {H : Hp} {o : HO} (h : H q = none) : Kp b H (upd H q o) := fun p u _ e => by
  rw [upd_ne (ne_of_none e h)]; exact e
/-- a store to an object that was not there at the start -/
theorem Kp.put {b q : Addr} {H H' : Hp} {o : HO} (k : Kp b H H') (h : H q = none) : Kp b H (upd H' q o) := fun p u n e => by
  rw [upd_ne (ne_of_none e h)]; exact k p u n e
theorem same_upd {H : Hp} {p : Addr} {o : HO} (h : H p = none) : Same H (upd H p o) := fun b x e => by
  rw [upd_ne (ne_of_none e h)]; exact e
theorem same_put {q : Addr} {H H' : Hp} {o : HO} (k : Same H H') (h : H q = none) : Same H (upd H' q o) := fun p u e => by
  rw [upd_ne (ne_of_none e h)]; exact k p u e
theorem Kp.free {b : Addr} {H H' : Hp} (e : Kp b H H') {l : Addr} (hb : ∃ o, H' b = some o) (h : H' l = none) : H l = none := by
  obtain ⟨o, hb⟩ := hb
  have n : l ≠ b := fun z => by rw [z, hb] at h; cases h
  cases q : H l with
  | none => rfl
  | some o => rw [e l o n q] at h; cases h
theorem Kp.seq {K : PySem.W.Frag} {b : Addr} {H H' : Hp} {a : Addr} {xs : List V} (e : Kp b H H') (n : a ≠ b) (h : SqL K H a xs) : SqL K H' a xs :=
  h.imp (fun seen => seen.imp (e a _ n) (fun ⟨ob, at_a⟩ => ⟨ob, e a _ n at_a⟩)) id

/-! ### the bag of the draws -/
def Bag (H : Hp) (b l : Addr) : Prop := ∃ (xs : List Int) (i n s : Int), H b = some (.lst [.ref l, .int i, .int n, .int s]) ∧ H l = some (.lst (xs.map V.int)) ∧ 0 ≤ i ∧ 0 ≤ n ∧ 0 ≤ s ∧ s < 2147483549
theorem bag_ne {H : Hp} {b l : Addr} {xs : List Int} {u v w : V} {a : Addr} (h : H b = some (.lst [.ref a, u, v, w])) (hl : H l = some (.lst (xs.map V.int))) : l ≠ b := ne_of hl h (by
  intro e
  have e2 := HO.lst.inj e
  cases xs with
  | nil => cases e2
  | cons x r => cases e2)
theorem Bag.hb {H : Hp} {b l : Addr} (B : Bag H b l) : ∃ o, H b = some o := by
  obtain ⟨xs, i, n, s, h, _⟩ := B
  exact ⟨_, h⟩
theorem Bag.hl {H : Hp} {b l : Addr} (B : Bag H b l) : ∃ o, H l = some o := by
  obtain ⟨xs, i, n, s, _, h, _⟩ := B
  exact ⟨_, h⟩
theorem Bag.nb {H : Hp} {b l q : Addr} (B : Bag H b l) (h : H q = none) : q ≠ b := fun e => by
  obtain ⟨o, hb⟩ := B.hb
  rw [e, hb] at h; cases h
theorem Bag.nl {H : Hp} {b l q : Addr} (B : Bag H b l) (h : H q = none) : q ≠ l := fun e => by
  obtain ⟨o, hb⟩ := B.hl
  rw [e, hb] at h; cases h
/-- a store elsewhere -/
theorem Bag.put {H : Hp} {b l q : Addr} {o : HO} (B : Bag H b l) (n1 : q ≠ b) (n2 : q ≠ l) : Bag (upd H q o) b l := by
  obtain ⟨xs, i, n, s, hb, hl, r⟩ := B
  exact ⟨xs, i, n, s, by rw [upd_ne n1.symm]; exact hb, by rw [upd_ne n2.symm]; exact hl, r⟩
theorem Bag.new {H : Hp} {b l q : Addr} {o : HO} (B : Bag H b l) (h : H q = none) : Bag (upd H q o) b l := B.put (B.nb h) (B.nl h)
theorem Bag.same {H H' : Hp} {b l : Addr} (B : Bag H b l) (k : Same H H') : Bag H' b l := by
  obtain ⟨xs, i, n, s, hb, hl, r⟩ := B
  exact ⟨xs, i, n, s, k _ _ hb, k _ _ hl, r⟩

/-! ### list(text) -/
def sig (c : Nat) : V := .str ⟨#[c]⟩
/-- two lists, place by place -/
theorem placewise {α β : Type} {R : α → β → Prop} : ∀ (as : List α) (bs : List β), as.length = bs.length → (∀ (j : Nat) (a : α) (b : β), as[j]? = some a → bs[j]? = some b → R a b) → Paired R as bs
  | [], [], _, _ => .nil
  | a :: as, b :: bs, hl, h => .cons (h 0 a b rfl rfl) (placewise as bs (Nat.succ.inj hl) fun j x y hx hy => h (j + 1) x y hx hy)
/-- the cells that the machine drew out of a text are its signs -/
theorem signs_drawn (z : Str) (cells : Array Value) (drawn : ItemsOf (SignAt z) cells z.cps.size) : Vals (z.cps.toList.map sig) cells.toList := by
  apply placewise
  · simp [drawn.1]
  · intro j v u hv hu
    rw [Array.getElem?_toList] at hu
    rcases drawn.2 j u hu with ⟨code, tok, there, rfl⟩
    have same : v = sig code := by
      rw [List.getElem?_map, Array.getElem?_toList, there] at hv
      exact (Option.some.inj hv).symm
    rw [same]
    exact ⟨tok, rfl⟩
theorem call_listS {X : Cx} (calm : X.calm = true) : CallR X (.type "list") (fun given H Q => ∃ z : Str, given = [.str z] ∧ z.length ≤ sizeLine ∧ ∀ l, H l = none → Q (.ref l) (upd H l (.lst (z.cps.toList.map sig)))) :=
  fun pins s σ H given held Q inv rel ask => by
    rcases ask with ⟨z, rfl, short, hand⟩
    match held, rel with
    | [_], .cons ⟨tok, rfl⟩ .nil =>
      apply PySem.call_list_str (inv.ok.hd calm) z tok (hn := short)
      intro heap toks cells ver kept made drawn
      have long : (z.cps.toList.map sig).length ≤ sizeLine := by
        rw [List.length_map, Array.length_toList]
        exact short
      have stands : Inv X pins σ (upd H s.heap.objs.size (.lst (z.cps.toList.map sig))) { s with heap := heap, toks := toks } :=
        inv.laid kept (Nat.le_refl _) ⟨long, cells.toList, ver, signs_drawn z cells drawn, made⟩
      exact ⟨V.ref s.heap.objs.size, _, stands, rfl, hand _ (inv.hok.fresh (Nat.le_refl _))⟩

/-! ### small things -/
theorem cut {t1 t2 : TS} {D : Ends} {σ : L2.St} {H : Hp} (Pv : L2.St → Hp → Prop) (h2 : ∀ σ' H', Pv σ' H' → t2 D σ' H') (h1 : ∀ N : L2.St → Hp → Prop, (∀ σ' H', Pv σ' H' → N σ' H') → t1 { D with nx := N } σ H) : tSeq t1 t2 D σ H := h1 _ h2
theorem cut_ints (ns : List Int) (lo hi : Option Int) : ∃ ms : List Int, cutV (ns.map V.int) lo hi = ms.map V.int := by
  unfold cutV
  rw [← List.map_drop, ← List.map_take]
  exact ⟨_, rfl⟩
theorem cut_int {ns : List Int} {lo hi : Option Int} {i : Nat} {y : V} (h : (cutV (ns.map V.int) lo hi)[i]? = some y) : ∃ u, y = V.int u := by
  obtain ⟨ms, e⟩ := cut_ints ns lo hi
  rw [e, List.getElem?_map] at h
  cases e2 : ms[i]? with
  | none => rw [e2] at h; cases h
  | some u => rw [e2] at h; exact ⟨u, (Option.some.inj h).symm⟩

/-! ### what the helpers promise -/
def spBag (K : PySem.W.Frag) : Sp := fun vs H Q _ => ∃ (a : Addr) (ns : List Int), vs = [.ref a] ∧ SqL K H a (ns.map V.int) ∧ ∀ H' b l, Same H H' → H b = none → H l = none → Bag H' b l → Q (.ref b) H'
def spPull : Sp := fun vs H Q _ => ∃ (b l : Addr) (m : Int), vs = [.ref b, .int m] ∧ Bag H b l ∧ 0 < m ∧ m < 1073741824 ∧ ∀ H' (d : Int), Kp b H H' → Bag H' b l → 0 ≤ d → d < m → Q (.int d) H'

/-! ### equal data -/
inductive Eqv (H : Hp) : Nat → V → V → Prop where
  | non (n : Nat) : Eqv H n .non .non
  | bl (n : Nat) (b : Bool) : Eqv H n (.bl b) (.bl b)
  | int (n : Nat) (i : Int) : Eqv H n (.int i) (.int i)
  | str (n : Nat) (z : Str) : Eqv H n (.str z) (.str z)
  | lst {n : Nat} {p q : Addr} {xs ys : List V} (hp : H p = some (.lst xs)) (hq : H q = some (.lst ys)) (hl : xs.length = ys.length) (hz : xs.length ≤ 10000) (h : ∀ (i : Nat) (x y : V), xs[i]? = some x → ys[i]? = some y → Eqv H n x y) : Eqv H (n + 1) (.ref p) (.ref q)
  | tup {n : Nat} {p q : Addr} {xs ys : List V} (hp : H p = some (.tup xs)) (hq : H q = some (.tup ys)) (hl : xs.length = ys.length) (hz : xs.length ≤ 10000) (h : ∀ (i : Nat) (x y : V), xs[i]? = some x → ys[i]? = some y → Eqv H n x y) : Eqv H (n + 1) (.ref p) (.ref q)
theorem Eqv.same {H H' : Hp} (s : Same H H') {n : Nat} {x y : V} (e : Eqv H n x y) : Eqv H' n x y := by
  induction e with
  | non n => exact .non n
  | bl n b => exact .bl n b
  | int n i => exact .int n i
  | str n z => exact .str n z
  | lst hp hq hl hz h ih => exact .lst (s _ _ hp) (s _ _ hq) hl hz ih
  | tup hp hq hl hz h ih => exact .tup (s _ _ hp) (s _ _ hq) hl hz ih
def spSame (n : Nat) : Sp := fun vs H Q _ => ∃ (x y : V), vs = [x, y] ∧ Eqv H n x y ∧ ∀ H', Same H H' → Q (.bl true) H'
/-- the type of a flat value -/
theorem kit_list {K : PySem.W.Frag} {a : String} {r : Bool} (h : kitB a "list" = some r) (h2 : r = false → kitB a "tuple" = some false) : PySem.W.kitAny K (.type a) [.type "list", .type "tuple"] = some r := by
  refine kitAny_cons (kit_ty h) (fun e => ?_) (fun e => e)
  subst e
  exact kitAny_cons (kit_ty (h2 rfl)) (fun _ => kitAny_nil) (fun e => by cases e)
theorem kit_tup {K : PySem.W.Frag} : PySem.W.kitAny K (.type "tuple") [.type "list", .type "tuple"] = some true :=
  kitAny_cons (b := false) (kit_ty (by decide +kernel)) (fun _ => kitAny_cons (b := true) (kit_ty (by decide +kernel)) (fun e => by cases e) (fun _ => rfl)) (fun e => by cases e)
/-- zip of two tuples, walked to the end of the shorter -/
theorem zip_tuples {K : PySem.W.Frag} {a b : Addr} {xs ys : List V} (hl : xs.length = ys.length) : Walk (RZ.ItzT K a b) xs.length (fun H => SqT K H a xs ∧ SqT K H b ys) (YPair (fun i => xs[i]?) (fun i => ys[i]?)) where
  goes := fun i H lt both => ⟨xs, ys, xs[i], ys[i]'(by omega), both.1, both.2, List.getElem?_eq_getElem lt, List.getElem?_eq_getElem (by omega)⟩
  stops := fun H both => ⟨xs, ys, both.1, both.2, .inl (Nat.le_refl _)⟩
  yields := fun i H v H' _ both ⟨T, x, y, e, new, after, at_x, at_y⟩ => ⟨T, x, y, e, new, after, at_x xs both.1, at_y ys both.2⟩
def spOf (K : PySem.W.Frag) : Sp := fun vs H Q _ => ∃ (b l : Addr) (t : V) (xs : List V), vs = [.ref b, t] ∧ Bag H b l ∧
  ((∃ a, t = .ref a ∧ a ≠ b ∧ SqL K H a xs) ∨ (∃ z : Str, t = .str z ∧ z.length ≤ sizeLine ∧ xs = z.cps.toList.map sig)) ∧ 0 < xs.length ∧ xs.length < 1073741824 ∧ ∀ H' x, Kp b H H' → Bag H' b l → x ∈ xs → Q x H'
def spMixed (K : PySem.W.Frag) : Sp := fun vs H Q _ => ∃ (b l a : Addr) (xs : List V), vs = [.ref b, .ref a] ∧ Bag H b l ∧ a ≠ b ∧ SqL K H a xs ∧ xs.length ≤ 1000 ∧
  ∀ H' p ys, Kp b H H' → Bag H' b l → H p = none → H' p = some (.lst ys) → ys.Perm xs → Q (.ref p) H'
theorem erasePm {α : Type} : ∀ (l : List α) (i : Nat) (h : i < l.length), (l[i] :: l.eraseIdx i).Perm l
  | [], i, h => absurd h (Nat.not_lt_zero _)
  | x :: r, 0, h => .refl _
  | x :: r, i + 1, h => by
    have hr : i < r.length := Nat.lt_of_succ_lt_succ h
    show (r[i] :: x :: r.eraseIdx i).Perm (x :: r)
    exact (List.Perm.swap x _ _).trans ((erasePm r i hr).cons x)
theorem ifF {c : Bool} {A B : Prop} (h : c = false) (hb : B) : if c = true then A else B := by rw [h]; exact iteF hb
theorem ifT {c : Bool} {A B : Prop} (h : c = true) (ha : A) : if c = true then A else B := by rw [h]; exact iteT ha




/-! ### texts as lists of signs -/
def txt (cs : List Nat) : Str := ⟨cs.toArray⟩
theorem txt_len (cs : List Nat) : (txt cs).length = cs.length := by show cs.toArray.size = _; simp
theorem txt_cps (cs : List Nat) : (txt cs).cps.toList = cs := by show cs.toArray.toList = _; simp
theorem txt_of (z : Str) : txt z.cps.toList = z := by show (⟨z.cps.toList.toArray⟩ : Str) = z; simp
theorem txt_app (a b : List Nat) : txt a ++ txt b = txt (a ++ b) := by
  show (⟨a.toArray ++ b.toArray⟩ : Str) = ⟨(a ++ b).toArray⟩
  simp
theorem txt_inj {a b : List Nat} (h : txt a = txt b) : a = b := by rw [← txt_cps a, ← txt_cps b, h]
theorem txt_minus : Str.ofString "-" = txt [45] := by decide +kernel
theorem txt_empty : Str.ofString "" = txt [] := by decide +kernel
theorem sig_txt (c : Nat) : sig c = .str (txt [c]) := rfl
def lettersL : List Nat → List Nat
  | [] => []
  | c :: r => if c = 45 then r else c :: r
def signL : List Nat → Nat
  | [] => 0
  | c :: r => if c = 45 then 1 else 0
def signedL (t : Int) (cs : List Nat) : List Nat := if t % 2 = 1 then 45 :: cs else cs
theorem letters_len (ts : List Nat) : (lettersL ts).length + signL ts = ts.length := by
  cases ts with
  | nil => rfl
  | cons c r =>
    show (if c = 45 then r else c :: r).length + (if c = 45 then 1 else 0) = r.length + 1
    by_cases h : c = 45
    · rw [if_pos h, if_pos h]
    · rw [if_neg h, if_neg h, List.length_cons]
theorem remove_minus (ts : List Nat) : Txt.removeprefix (txt ts) (Str.ofString "-") = txt (lettersL ts) := by
  rw [txt_minus]
  unfold Txt.removeprefix
  cases ts with
  | nil => rfl
  | cons c r =>
    have e : Builtin.Str.subAt (txt (c :: r)) (txt [45]) 0 = decide (c = 45) := by
      unfold Builtin.Str.subAt
      show ((c :: r).toArray.extract 0 (0 + 1) == #[45]) = _
      have e2 : (c :: r).toArray.extract 0 (0 + 1) = #[c] := by simp
      rw [e2]
      by_cases h : c = 45
      · subst h; rfl
      · rw [decide_eq_false h]
        simp [h]
    rw [e]
    show _ = txt (if c = 45 then r else c :: r)
    by_cases h : c = 45
    · rw [decide_eq_true h, if_pos rfl, if_pos h]
      unfold Txt.affix
      have e3 : ((txt (c :: r)).length - (txt [45]).length == (txt (c :: r)).length) = false := by
        rw [txt_len, txt_len]
        simp
      show (if ((txt (c :: r)).length - (txt [45]).length == (txt (c :: r)).length) = true then _ else _) = _
      rw [e3, if_neg Bool.false_ne_true]
      show (⟨(c :: r).toArray.extract 1 (c :: r).toArray.size⟩ : Str) = ⟨r.toArray⟩
      simp
    · rw [decide_eq_false h, if_neg Bool.false_ne_true, if_neg h]
      rfl
theorem join_txt : ∀ (xs : List (List Nat)), Txt.join (Str.ofString "") (xs.map txt) = txt xs.flatten := by
  intro xs
  show Builtin.Str.glued _ _ = _
  rw [StrLaws.glued_eq_join, txt_empty]
  induction xs with
  | nil => rfl
  | cons x r ih =>
    cases r with
    | nil => show txt x = txt (x ++ []); rw [List.append_nil]
    | cons y r =>
      show txt x ++ txt [] ++ Str.join (txt []) ((y :: r).map txt) = _
      rw [ih, txt_app, txt_app, List.append_nil]
      rfl
theorem flat_ones (cs : List Nat) : (cs.map fun c => [c]).flatten = cs := by
  induction cs with
  | nil => rfl
  | cons c r ih => show c :: (r.map fun c => [c]).flatten = _; rw [ih]
theorem join_sigs (cs : List Nat) : Txt.join (Str.ofString "") (cs.map fun c => txt [c]) = txt cs := by
  have e : (cs.map fun c => txt [c]) = (cs.map fun c => [c]).map txt := by rw [List.map_map]; rfl
  rw [e, join_txt, flat_ones]
theorem len_ones (cs : List Nat) : ((cs.map fun c => txt [c]).map (·.length)).sum = cs.length := by
  induction cs with
  | nil => rfl
  | cons c r ih =>
    show (txt [c]).length + ((r.map fun c => txt [c]).map (·.length)).sum = _
    rw [ih, txt_len, List.length_cons]
    simp [Nat.add_comm]
/-- a word: its sign, its letters (none is the sign) -/
def wd (s : Bool) (cs : List Nat) : List Nat := if s then 45 :: cs else cs
def Lt (cs : List Nat) : Prop := ∀ c ∈ cs, c ≠ 45
theorem letters_wd {s : Bool} {cs : List Nat} (h : Lt cs) : lettersL (wd s cs) = cs := by
  cases s with
  | true => rfl
  | false =>
    cases cs with
    | nil => rfl
    | cons c r =>
      show (if c = 45 then r else c :: r) = c :: r
      rw [if_neg (h c List.mem_cons_self)]
theorem sign_wd {s : Bool} {cs : List Nat} (h : Lt cs) : signL (wd s cs) = s.toNat := by
  cases s with
  | true => rfl
  | false =>
    cases cs with
    | nil => rfl
    | cons c r =>
      show (if c = 45 then 1 else 0) = 0
      rw [if_neg (h c List.mem_cons_self)]
theorem signed_wd (t : Int) (cs : List Nat) : signedL t cs = wd (decide (t % 2 = 1)) cs := by
  unfold signedL wd
  by_cases h : t % 2 = 1
  · rw [if_pos h, decide_eq_true h]; rfl
  · rw [if_neg h, decide_eq_false h]; rfl
theorem wd_len (s : Bool) (cs : List Nat) : (wd s cs).length = cs.length + s.toNat := by cases s <;> rfl
def spLetters : Sp := fun vs H Q _ => ∃ ts : List Nat, vs = [.str (txt ts)] ∧ ts.length ≤ sizeLine ∧ Q (.str (txt (lettersL ts))) H
def spSignOf : Sp := fun vs H Q _ => ∃ ts : List Nat, vs = [.str (txt ts)] ∧ ts.length ≤ sizeLine ∧ Q (.int (signL ts)) H
def spSigned : Sp := fun vs H Q _ => ∃ (t : Int) (cs : List Nat), vs = [.int t, .str (txt cs)] ∧ cs.length < sizeLine ∧ Q (.str (txt (signedL t cs))) H

/-! ### cancelling -/
def stp (rs : List Nat) (c : Nat) : List Nat := match rs with
  | [] => [c]
  | d :: r => if d = c then r else c :: d :: r
def noAdj : List Nat → Prop
  | a :: b :: r => a ≠ b ∧ noAdj (b :: r)
  | _ => True
theorem noAdj.tail {a : Nat} {r : List Nat} (h : noAdj (a :: r)) : noAdj r := by
  cases r with
  | nil => trivial
  | cons b r => exact h.2
theorem stp_noAdj {rs : List Nat} (c : Nat) (h : noAdj rs) : noAdj (stp rs c) := by
  cases rs with
  | nil => trivial
  | cons d r =>
    unfold stp
    dsimp only
    by_cases e : d = c
    · rw [if_pos e]; exact h.tail
    · rw [if_neg e]; exact ⟨fun z => e z.symm, h⟩
theorem stp_stp {rs : List Nat} (c : Nat) (h : noAdj rs) : stp (stp rs c) c = rs := by
  cases rs with
  | nil => show (if c = c then [] else _) = _; rw [if_pos rfl]
  | cons d r =>
    by_cases e : d = c
    · subst e
      have e1 : stp (d :: r) d = r := if_pos rfl
      rw [e1]
      cases r with
      | nil => rfl
      | cons b r =>
        show (if b = d then r else d :: b :: r) = _
        rw [if_neg (fun z => h.1 z.symm)]
    · have e1 : stp (d :: r) c = c :: d :: r := if_neg e
      rw [e1]
      show (if c = c then d :: r else _) = _
      rw [if_pos rfl]
def redR (cs : List Nat) : List Nat := cs.foldl stp []
def redL (cs : List Nat) : List Nat := (redR cs).reverse
theorem fold_noAdj : ∀ (cs rs : List Nat), noAdj rs → noAdj (cs.foldl stp rs)
  | [], _, h => h
  | c :: r, rs, h => fold_noAdj r (stp rs c) (stp_noAdj c h)
theorem redR_snoc (cs : List Nat) (c : Nat) : redR (cs ++ [c]) = stp (redR cs) c := by
  unfold redR
  rw [List.foldl_append]
  rfl
theorem red_cancel (a b : List Nat) (c : Nat) : redL (a ++ c :: c :: b) = redL (a ++ b) := by
  unfold redL redR
  rw [List.foldl_append, List.foldl_append]
  show (b.foldl stp (stp (stp (a.foldl stp []) c) c)).reverse = _
  rw [stp_stp c (fold_noAdj a [] trivial)]
theorem stp_mem {rs : List Nat} {c x : Nat} (h : x ∈ stp rs c) : x = c ∨ x ∈ rs := by
  cases rs with
  | nil => exact .inl (List.mem_singleton.mp h)
  | cons d r =>
    by_cases e : d = c
    · have e1 : stp (d :: r) c = r := if_pos e
      rw [e1] at h
      exact .inr (List.mem_cons_of_mem _ h)
    · have e1 : stp (d :: r) c = c :: d :: r := if_neg e
      rw [e1] at h
      exact (List.mem_cons.mp h)
theorem stp_len (rs : List Nat) (c : Nat) : (stp rs c).length ≤ rs.length + 1 := by
  cases rs with
  | nil => exact Nat.le_refl _
  | cons d r =>
    by_cases e : d = c
    · have e1 : stp (d :: r) c = r := if_pos e
      rw [e1, List.length_cons]; omega
    · have e1 : stp (d :: r) c = c :: d :: r := if_neg e
      rw [e1]; exact Nat.le_refl _
def still (cs : List Nat) : Prop := ∀ (i : Nat) (a b : Nat), cs[i]? = some a → cs[i + 1]? = some b → a ≠ b
theorem redR_take {cs : List Nat} (h : still cs) : ∀ k, k ≤ cs.length → redR (cs.take k) = (cs.take k).reverse
  | 0, _ => rfl
  | k + 1, hk => by
    have hk1 : k < cs.length := hk
    rw [List.take_succ_eq_append_getElem hk1, redR_snoc, redR_take h k (by omega), List.reverse_append]
    cases k with
    | zero => rfl
    | succ j =>
      have hj : j < cs.length := by omega
      rw [List.take_succ_eq_append_getElem hj, List.reverse_append]
      show (if cs[j] = cs[j + 1] then _ else cs[j + 1] :: cs[j] :: (cs.take j).reverse) = cs[j + 1] :: cs[j] :: (cs.take j).reverse
      rw [if_neg (h j _ _ (List.getElem?_eq_getElem hj) (List.getElem?_eq_getElem hk1))]
theorem red_still {cs : List Nat} (h : still cs) : redL cs = cs := by
  have e := redR_take h cs.length (Nat.le_refl _)
  rw [List.take_length] at e
  unfold redL
  rw [e, List.reverse_reverse]
theorem redR_len (cs : List Nat) : (redR cs).length ≤ cs.length := by
  have : ∀ (cs rs : List Nat), (cs.foldl stp rs).length ≤ rs.length + cs.length := by
    intro cs
    induction cs with
    | nil => intro rs; exact Nat.le_refl _
    | cons c r ih =>
      intro rs
      have h1 := ih (stp rs c)
      have h2 := stp_len rs c
      show (r.foldl stp (stp rs c)).length ≤ rs.length + (r.length + 1)
      omega
  have h := this cs []
  rw [List.length_nil, Nat.zero_add] at h
  exact h
def spReduced : Sp := fun vs H Q _ => ∃ ts : List Nat, vs = [.str (txt ts)] ∧ ts.length ≤ 1000 ∧ ∀ H', Same H H' → Q (.str (txt (signedL (signL ts) (redL (lettersL ts))))) H'

/-! ### slices of texts; lists of ints as data -/
theorem cutS_take (cs : List Nat) (k : Nat) : cutS (txt cs) none (some (k : Int)) = txt (cs.take k) := by
  unfold cutS
  rw [txt_cps, HT.sIx_none, HT.sIx_nat, txt_len]
  show txt _ = txt _
  congr 1
  rw [List.drop_zero, Nat.sub_zero]
  by_cases h : k ≤ cs.length
  · rw [Nat.min_eq_left h]
  · rw [Nat.min_eq_right (by omega), List.take_length, List.take_of_length_le (by omega)]
theorem cutS_drop (cs : List Nat) (k : Nat) : cutS (txt cs) (some (k : Int)) none = txt (cs.drop k) := by
  unfold cutS
  rw [txt_cps, HT.sIx_none, HT.sIx_nat, txt_len]
  show txt _ = txt _
  congr 1
  by_cases h : k ≤ cs.length
  · rw [Nat.min_eq_left h]
    exact List.take_of_length_le (by rw [List.length_drop]; exact Nat.le_refl _)
  · rw [Nat.min_eq_right (by omega), List.drop_of_length_le (Nat.le_refl _), List.drop_of_length_le (l := cs) (by omega)]
    exact List.take_nil
theorem cutV_take (xs : List V) (k : Nat) : cutV xs none (some (k : Int)) = xs.take k := by
  unfold cutV
  rw [HT.sIx_none, HT.sIx_nat, List.drop_zero, Nat.sub_zero]
  by_cases h : k ≤ xs.length
  · rw [Nat.min_eq_left h]
  · rw [Nat.min_eq_right (by omega), List.take_length, List.take_of_length_le (by omega)]
theorem dp_ints {K : PySem.W.Frag} {H : Hp} : ∀ ns : List Int, DpAll K H (ns.map V.int) (ns.map PyData.int)
  | [] => .nil
  | n :: r => .cons (.int n) (dp_ints r)
theorem shaped_ints' (ns : List Int) : SeqAt.shaped (.list (ns.map PyData.int)) = true := PySem.W.ke_shaped_ints ns
theorem signed_wd0 {s : Bool} (cs : List Nat) : signedL ((s.toNat : Nat) : Int) cs = wd s cs := by cases s <;> rfl
def spLSigned : Sp := spSigned
def spLets : Sp := fun vs H Q _ => vs = [] ∧ Q (.str (Str.ofString "abcdefghijklmnopqrstuvwx")) H
def alpha : List Nat := [97, 98, 99, 100, 101, 102, 103, 104, 105, 106, 107, 108, 109, 110, 111, 112, 113, 114, 115, 116, 117, 118, 119, 120]
theorem txt_alpha : Str.ofString "abcdefghijklmnopqrstuvwx" = txt alpha := by decide +kernel
theorem alpha_lt {c : Nat} (h : c ∈ alpha) : c ≠ 45 := by
  intro e
  subst e
  exact absurd h (by decide)
theorem perm_sigs {ys : List V} {cs : List Nat} (h : ys.Perm (cs.map sig)) : ∃ ds : List Nat, ys = ds.map sig ∧ ds.Perm cs := by
  refine ⟨ys.map (fun v => match v with | .str z => z.cps.toList.headD 0 | _ => 0), ?_, ?_⟩
  · rw [List.map_map]
    have : ∀ y ∈ ys, (sig ∘ fun v => match v with | .str z => z.cps.toList.headD 0 | _ => 0) y = y := by
      intro y hy
      obtain ⟨c, _, rfl⟩ := List.mem_map.mp (h.mem_iff.mp hy)
      rfl
    rw [List.map_congr_left this, List.map_id']
  · have h2 := h.map (fun v => match v with | .str z => z.cps.toList.headD 0 | _ => 0)
    rw [List.map_map] at h2
    have e : ((fun v => match v with | V.str z => z.cps.toList.headD 0 | _ => 0) ∘ sig) = id := by funext c; rfl
    rw [e, List.map_id] at h2
    exact h2
def spLaw (K : PySem.W.Frag) : Sp := fun vs H Q _ => ∃ (a : Addr) (ns : List Int), vs = [.ref a] ∧ SqL K H a (ns.map V.int) ∧ ns.length ≤ 63 ∧ ∀ H', Q (.bl true) H'
end Tm

/-! sets of texts -/
namespace Tm
open PySem PySem.Spec PyProof.Rows L2 PySem.Froz
section
variable {P : Program} {w : World} {A : Around} {E : Value → Shared → Prop} {s : Shared}
/-- the payload of a set that was just made -/
def fresh (w : World) : SD := (#[], 0, .fresh 0 0 (!w.params.followText "set-order"))
theorem new_set1 (v : Value) {Q : Value → Shared → Prop} (h : Q (.ref s.heap.objs.size) { s with heap := s.heap.push (sObj "set" (fresh w)) }) :
    codeAny (model P w) A (.call (.builtin "set.__new__") ⟨[.type "set", v], []⟩) (wants Q E) s := by
  refine codeAny_call_builtin PySem.F.plain_set_new PySem.F.entry_set_new (wpAny_of_eq (PySem.F.newCall_set_1 v) ?_)
  unfold Builtin.«set.__new__» Builtin.Frozenset.newClass
  have sub := PySem.sub_set_self
  repeat any_goals first | assumption | wp_step
  apply wpAny_askSetting
  apply wpAny_pure
  simp only [newObj]
  apply wpAny_bind
  apply wpAny_alloc
  apply wpAny_pure
  exact wpAny_pure h
/-- a text that is there already -/
theorem add_old {a : Addr} {T : String} {D : SD} {l : List Str} {k : Str} {u : Tok} {Q : Bool → Shared → Prop} (there : s.heap.get? a = some (sObj T D)) (F : TxOk P w D l) (hk : k ∈ l) (few : l.length < scanBound) (h : Q false s) :
    wpAny (model P w) A (setAddHashed a (.str k u) (hashStr w k)) Q E s := by
  obtain ⟨es, ep, t⟩ := D
  have size : es.size < scanBound := by rw [show es.size = l.length from F.sz]; exact few
  obtain ⟨e, he, hit⟩ := (F.mem k).mp hk
  have found : ∃ j, es.toList.findIdx? (fun e => (strKind P w).is k e.2) = some j := by
    cases q : es.toList.findIdx? (fun e => (strKind P w).is k e.2) with
    | none => exact absurd hit (by simpa using List.findIdx?_eq_none_iff.mp q e he)
    | some j => exact ⟨j, rfl⟩
  obtain ⟨j, at_j⟩ := found
  unfold setAddHashed
  apply wpAny_holding
  show wpAny _ _ (setAddHashedIn a (.str k u) (hashStr w k) (99999 + 1)) _ _ _
  unfold setAddHashedIn
  apply wpAny_bind
  apply wpAny_setState_of there rfl F.fit
  dsimp only
  rw [if_pos (byScan_of (knd := strKind P w) rfl size F.el)]
  apply wpAny_bind
  unfold setAddByScan
  apply wpAny_bind
  apply wpAny_rule
  apply wpAny_bind
  apply wpAny_setScan_of (knd := strKind P w) (k := k) (is_str k u) there rfl F.fit F.el
  rw [at_j]
  apply wpAny_pure
  exact wpAny_pure h
/-- the set of the texts l at a: its table can be walked -/
structure SetTx (w : World) (h : Heap) (a : Addr) (l : List Str) : Prop where
  ex : ∃ D : SD, h.get? a = some (sObj "set" D) ∧ (∀ P : Program, TxOk P w D l) ∧ Ris D.2.2.place.toList ∧ (w.params.followText "set-order" = true ∨ D.2.2.led = true)
  nodup : l.Nodup
theorem SetTx.at {h h' : Heap} {a : Addr} {l : List Str} (S : SetTx w h a l) (k : ∀ o, h.get? a = some o → h'.get? a = some o) : SetTx w h' a l := by
  obtain ⟨⟨D, there, r⟩, nd⟩ := S
  exact ⟨⟨D, k _ there, r⟩, nd⟩
theorem addTx_ris (h : Int) (v : Value) (D : SD) (r : Ris D.2.2.place.toList) : Ris (addTx h v D).2.2.place.toList ∧ (addTx h v D).2.2.led = D.2.2.led := by
  have r1 := layNew_ris D.2.2 D.1 h v r
  have l1 := layNew_led D.2.2 D.1 h v
  unfold addTx tailTx
  generalize layNew D.2.2 D.1 h v = Z at r1 l1 ⊢
  obtain ⟨es1, t1, wd, gave⟩ := Z
  dsimp only at r1 l1 ⊢
  have r2 : Ris (if t1.plain = true then { t1 with plain := false } else t1).place.toList := by
    split
    · exact r1
    · exact r1
  have l2 : (if t1.plain = true then { t1 with plain := false } else t1).led = D.2.2.led := by
    split
    · exact l1
    · exact l1
  generalize (if t1.plain = true then { t1 with plain := false } else t1) = t2 at r2 l2 ⊢
  split
  · exact ⟨relayAll_ris _ _ _, (relayAll_led _ _ _).trans l2⟩
  · exact ⟨r2, l2⟩
/-- the members behind an add -/
def addS (l : List Str) (k : Str) : List Str := if k ∈ l then l else k :: l
theorem add_tx {a : Addr} {l : List Str} {k : Str} {u : Tok} {Q : Bool → Shared → Prop} (S : SetTx w s.heap a l) (few : l.length + 1 < scanBound)
    (h : ∀ h', Heap.SameBut a s.heap h' → SetTx w h' a (addS l k) → ∀ b, Q b { s with heap := h', toks := s.toks + 1 }) : wpAny (model P w) A (setAdd a (.str k u)) Q E s := by
  obtain ⟨⟨D, there, ok, ris, led⟩, nd⟩ := id S
  unfold setAdd
  apply wpAny_holding
  apply wpAny_bind
  apply (strKind P w).pyHash (k := k) (strKind_is _ _ _ _)
  by_cases hk : k ∈ l
  · apply add_old (s := { s with toks := s.toks + 1 }) there (ok P) hk (by omega)
    have e : addS l k = l := if_pos hk
    rw [e] at h
    exact h s.heap (Heap.SameBut.refl _ _) S false
  · apply add_x (s := { s with toks := s.toks + 1 }) there (ok P) hk few
    have e : addS l k = k :: l := if_neg hk
    rw [e] at h
    obtain ⟨r2, l2⟩ := addTx_ris (hashStr w k) (.str k u) D ris
    refine h _ (Heap.SameBut.update s.heap a _) ⟨⟨_, get_upd _ there rfl, fun P => add_ok u (ok P), r2, led.imp id fun z => l2.trans z⟩, List.nodup_cons.mpr ⟨hk, nd⟩⟩ true
theorem addS_len (l : List Str) (k : Str) : (addS l k).length ≤ l.length + 1 := by
  unfold addS
  split
  · exact Nat.le_succ _
  · exact Nat.le_refl _
/-- the loop that puts what an iterator hands out into the set -/
theorem fill_tx {R : Result → Shared → Prop} {I a : Addr} {fp wr : List Addr} {n : Nat} {Pv : Nat → Value → Prop} {St : Nat → Heap → Prop} (xs : List Str) (W : Walks P w A.in1 I fp wr n Pv St) (hn : n = xs.length) (texts : ∀ i v, Pv i v → ∃ x t, xs[i]? = some x ∧ v = .str x t) (apart : a ∉ fp) :
    ∀ (m i : Nat) (l : List Str) (s : Shared), i + m = n → St i s.heap → SetTx w s.heap a l → l.length + m < scanBound →
      (∀ h' tk, (∀ b o, b ∉ a :: wr → s.heap.get? b = some o → h'.get? b = some o) → SetTx w h' a ((xs.drop i).foldl addS l) → R (.ok (.ret .none)) { s with heap := h', toks := tk }) →
      codeAny (model P w) A (.builtin "set.update.loop" ⟨[.ref a, .ref I], []⟩) R s := by
  have apart2 : a ∉ wr := fun z => apart (W.sub a z)
  intro m
  induction m with
  | zero =>
    intro i l s left st S _ hand
    have e : i = n := left
    subst e
    apply codeAny_builtin PyProof.Rows.F.entry_set_update_loop
    rw [Around.under_plainId PyProof.Rows.F.plain_set_update_loop _]
    apply wpAny_bind
    apply W.done s _ _ st
    intro h' tk kept
    apply wpAny_pure
    have none_left : xs.drop i = [] := List.drop_of_length_le (by omega)
    rw [none_left] at hand
    exact hand h' tk (fun b o hb there => kept b o (fun z => hb (List.mem_cons_of_mem _ z)) there) (S.at fun o there => kept a o apart2 there)
  | succ m ih =>
    intro i l s left st S few hand
    apply codeAny_builtin PyProof.Rows.F.entry_set_update_loop
    rw [Around.under_plainId PyProof.Rows.F.plain_set_update_loop _]
    apply wpAny_bind
    apply W.item i s _ _ (by omega) st
    intro v h1 tk1 drawn st1 kept1
    obtain ⟨x, t, at_i, rfl⟩ := texts i v drawn
    apply wpAny_bind
    apply wpAny_holding
    apply add_tx (s := { s with heap := h1, toks := tk1 }) (S.at fun o there => kept1 a o apart2 there) (by omega)
    intro h2 same2 S2 _
    have grown := addS_len l x
    have rest : xs.drop i = x :: xs.drop (i + 1) := by
      have lt : i < xs.length := (List.getElem?_eq_some_iff.mp at_i).1
      rw [List.drop_eq_getElem_cons lt, (List.getElem?_eq_some_iff.mp at_i).2]
    rw [rest] at hand
    refine wpAny_pure ⟨plainId_quiet PyProof.Rows.F.plain_set_update_loop _, ?_⟩
    apply ih (i + 1) (addS l x) { s with heap := h2, toks := tk1 + 1 } (by omega) (W.frame _ _ _ st1 fun b hb o there => ?_) S2 (by omega)
    · intro h' tk kept S'
      refine hand h' tk (fun b o hb there => ?_) S'
      have nb : b ≠ a := fun z => hb (z ▸ List.mem_cons_self)
      exact kept b o hb ((same2.2 b nb).trans (kept1 b o (fun z => hb (List.mem_cons_of_mem _ z)) there))
    · exact (same2.2 b (fun z => apart (z ▸ hb))).trans there
theorem led_or (w : World) : w.params.followText "set-order" = true ∨ (fresh w).2.2.led = true :=
  Decidable.or_iff_not_imp_left.mpr fun no => (congrArg (fun q => !q) (Bool.eq_false_iff.mpr no) :)
set_option maxHeartbeats 3200000 in
theorem init_tx {R : Result → Shared → Prop} {T : String} {v : Value} {o : Obj} {Hc : Heap → Prop} {a : Addr} (xs : List Str) (here : s.heap.get? a = some (sObj "set" (fresh w))) (B : Begins v o Hc) (now : Hc s.heap) (hv : s.TypeIs v T)
    (ns : isSubtype (.type T) (.type "set") = pure false) (nf : isSubtype (.type T) (.type "frozenset") = pure false) (nd : (Value.type T == .type "dict") = false) (few : xs.length < scanBound)
    {Pv : Nat → Value → Prop} {fp : List Addr} {St : Nat → Heap → Prop} (W : Walks P w A.in1.in1 s.heap.objs.size fp [s.heap.objs.size] xs.length Pv St) (texts : ∀ i v, Pv i v → ∃ x t, xs[i]? = some x ∧ v = .str x t)
    (start : St 0 (s.heap.push o)) (apart : a ∉ fp)
    (hand : ∀ h' tk, (∀ b ob, b ≠ a → s.heap.get? b = some ob → h'.get? b = some ob) → SetTx w h' a (xs.foldl addS []) → R (.ok (.ret .none)) { s with heap := h', toks := tk }) :
    codeAny (model P w) A (.call (.builtin "set.__init__") ⟨[.ref a, v], []⟩) R s := by
  have hT : s.TypeIs (.ref a) "set" := ⟨_, here, rfl⟩
  obtain ⟨hp, g, d, tk, os⟩ := s
  have it : ∀ {A' : Around} {E : Value → Shared → Prop} {Q : Value → Shared → Prop}, Q (.ref hp.objs.size) ⟨hp.push o, g, d, tk, os⟩ → wpAny (model P w) A' (pyIter v) Q E ⟨hp, g, d, tk, os⟩ := fun q => B.iter P w _ _ ⟨hp, g, d, tk, os⟩ _ now q
  refine codeAny_call_builtin PySem.F.called_set.init.plain PySem.F.entry_set_init (PySem.check_set_init_1 hT ?_)
  unfold Builtin.«set.__init__» noKeywords
  wp_walk using it
  have S0 : SetTx w (hp.push o) a [] := ⟨⟨fresh w, Heap.get?_push_of_some _ here, fun P => TxOk.nil rfl, .nil, led_or w⟩, .nil⟩
  apply fill_tx (A := A.in1) xs W rfl texts apart xs.length 0 [] ⟨hp.push o, g, d, tk, os⟩ (Nat.zero_add _) start S0 (by simpa using few)
  intro h' tk' kept S'
  apply wpAny_pure
  apply wpAny_pure
  refine hand h' tk' (fun b ob nb there => kept b ob (fun z => ?_) (Heap.get?_push_of_some _ there)) S'
  rcases List.mem_cons.mp z with z | z
  · exact nb z
  · have e : b = hp.objs.size := List.mem_singleton.mp z
    subst e
    exact absurd (Heap.lt_size there) (Nat.lt_irrefl _)
set_option maxHeartbeats 3200000 in
theorem call_set_tx {T : String} {v : Value} {o : Obj} {Hc : Heap → Prop} {Q : Value → Shared → Prop} (xs : List Str) (B : Begins v o Hc) (now : Hc s.heap) (ty : ∀ s' : Shared, Hc s'.heap → s'.TypeIs v T)
    (ns : isSubtype (.type T) (.type "set") = pure false) (nf : isSubtype (.type T) (.type "frozenset") = pure false) (nd : (Value.type T == .type "dict") = false) (few : xs.length < scanBound)
    {Pv : Nat → Value → Prop} {fp : Addr → List Addr} {St : Addr → Nat → Heap → Prop} (hh : A.handled = none) (W : ∀ (A' : Around) (I : Addr), A'.handled = none → (∀ o, s.heap.get? I ≠ some o) → Walks P w A' I (fp I) [I] xs.length Pv (St I)) (texts : ∀ i v, Pv i v → ∃ x t, xs[i]? = some x ∧ v = .str x t)
    (start : ∀ h : Heap, Hc h → St h.objs.size 0 (h.push o)) (apart : s.heap.objs.size ∉ fp (s.heap.objs.size + 1))
    (hand : ∀ h' tk, (∀ b ob, s.heap.get? b = some ob → h'.get? b = some ob) → SetTx w h' s.heap.objs.size (xs.foldl addS []) → Q (.ref s.heap.objs.size) { s with heap := h', toks := tk }) :
    wpAny (model P w) A (call (.type "set") [v]) Q E s := by
  have ft := PySem.F.called_set
  obtain ⟨c, tl, order⟩ := ft.mro
  have made := ft.made
  have sub := ft.sub
  have h1 := ft.notType
  have h2 := ft.canCreate
  have hct := PySem.F.typeCall_set_1 v
  apply wpAny_call
  apply codeAny_of_tree
  show wpAny _ _ (callAny (.type "set") _) _ _ _
  apply wpAny_pure
  refine ⟨Code.quiet_builtin _ (by decide +kernel), ?_⟩
  apply codeAny_builtin PySem.F.entry_type_call
  rw [Around.under_plain (weight_type_call_type "set" [v] []) rfl]
  repeat any_goals first | assumption | wp_step
  refine codeAny_mono (new_set1 v (E := E) (Q := fun obj s1 => obj = .ref s.heap.objs.size ∧ s1 = { s with heap := s.heap.push (sObj "set" (fresh w)) }) ⟨rfl, rfl⟩) fun r s1 hr => ?_
  cases r with
  | error e => exact hr
  | ok fl =>
    cases fl with
    | ret obj =>
      obtain ⟨rfl, rfl⟩ := hr
      have lk := ft.init.lookup
      have bd := ft.init.bind (.ref s.heap.objs.size)
      have hT : Shared.TypeIs { s with heap := s.heap.push (sObj "set" (fresh w)) } (.ref s.heap.objs.size) "set" := ⟨_, Heap.get?_push_size _ rfl, rfl⟩
      repeat any_goals first | assumption | wp_step
      refine codeAny_mono (R := wants (fun r s2 => r = .none ∧ Q (.ref s.heap.objs.size) s2) E) ?run fun r2 s2 hr2 => ?back
      case back =>
        cases r2 with
        | error e => exact hr2
        | ok fl2 =>
          cases fl2 with
          | ret r =>
            obtain ⟨rfl, done⟩ := hr2
            repeat any_goals first | assumption | wp_step
          | next => exact hr2.elim
          | brk => exact hr2.elim
          | cont => exact hr2.elim
      case run =>
        have now1 : Hc (s.heap.push (sObj "set" (fresh w))) := B.keeps _ _ now fun b ob there => Heap.get?_push_of_some _ there
        have here : (s.heap.push (sObj "set" (fresh w))).get? s.heap.objs.size = some (sObj "set" (fresh w)) := Heap.get?_push_size _ rfl
        have size : (s.heap.push (sObj "set" (fresh w))).objs.size = s.heap.objs.size + 1 := Heap.size_push ..
        refine init_tx (s := { s with heap := s.heap.push (sObj "set" (fresh w)) }) (T := T) xs here B now1 (ty _ now1) ns nf nd few (W _ _ hh (fun ob there => absurd (Heap.lt_size there) (by show ¬ (s.heap.push (sObj "set" (fresh w))).objs.size < s.heap.objs.size; rw [size]; omega))) texts (start _ now1) (by rw [show ({ s with heap := s.heap.push (sObj "set" (fresh w)) } : Shared).heap.objs.size = s.heap.objs.size + 1 from size]; exact apart) fun h' tk kept S => ?_
        exact ⟨rfl, hand h' tk (fun b ob there => kept b ob (fun z => absurd (Heap.lt_size there) (by rw [z]; exact Nat.lt_irrefl _)) (Heap.get?_push_of_some _ there)) S⟩
    | next => exact hr.elim
    | brk => exact hr.elim
    | cont => exact hr.elim
end
/-! ### over the layer -/
def SetSO (w : World) (a : Addr) (l : List Str) : HO := .ext fun h => SetTx w h a l
theorem setSO_new {P : Program} {w : World} {H : Hp} {h : Heap} {a : Addr} {l : List Str} (S : SetTx w h a l) : ObjOk P w H h a (SetSO w a l) := by
  obtain ⟨D, there, _⟩ := S.ex
  exact ⟨S, ⟨_, there⟩, fun h1 h2 z k => z.at k⟩
theorem setSO_get {X : Cx} {pins : List (Addr × Obj)} {σ : L2.St} {H : Hp} {s : Shared} {a : Addr} {l : List Str} (inv : Inv X pins σ H s) (at_a : H a = some (SetSO X.w a l)) : SetTx X.w s.heap a l := (inv.hok a _ at_a).1
/-- the members of set(xs) -/
def members (xs : List Str) : List Str := xs.foldl addS []
theorem strs_place {xs : List Str} {us : List Value} (r : Vals (xs.map V.str) us) {i : Nat} {v : Value} (h : us.toArray[i]? = some v) : ∃ x t, xs[i]? = some x ∧ v = .str x t := by
  have h2 : us[i]? = some v := by simpa using h
  induction xs generalizing us i with
  | nil => cases r; cases h2
  | cons x xs ih =>
    cases r with
    | @cons _ u _ us head tail =>
      cases i with
      | zero =>
        obtain ⟨t, rfl⟩ := head
        exact ⟨x, t, rfl, (Option.some.inj h2).symm⟩
      | succ i => exact ih tail (by simpa using h2) (by simpa using h2)
theorem call_setTexts {X : Cx} (calm : X.calm = true) : CallR X (.type "set") (fun given H Q => ∃ (p : Addr) (xs : List Str), given = [.ref p] ∧ (SqL X.K H p (xs.map V.str) ∨ SqT X.K H p (xs.map V.str)) ∧ xs.length ≤ 1000 ∧ ∀ a, H a = none → Q (.ref a) (upd H a (SetSO X.w a (members xs)))) :=
  fun pins s σ H given held Q inv rel ask => by
    rcases ask with ⟨p, xs, rfl, stands, few, hand⟩
    match held, rel with
    | [_], .cons rfl .nil =>
      have small : xs.length < scanBound := by unfold scanBound; omega
      have out : ∀ h' tk, (∀ b ob, s.heap.get? b = some ob → h'.get? b = some ob) → SetTx X.w h' s.heap.objs.size (xs.foldl addS []) → EP X pins σ Q (.ref s.heap.objs.size) { s with heap := h', toks := tk } := fun h' tk kept S =>
        ⟨.ref _, upd H s.heap.objs.size (SetSO X.w s.heap.objs.size (members xs)), inv.laid kept (Nat.le_refl _) (setSO_new S), rfl, hand _ (inv.hok.fresh (Nat.le_refl _))⟩
      rcases stands with stands | stands
      · obtain ⟨us, vals, plain, _⟩ := inv.list stands
        have num : us.toArray.size = xs.length := by rw [List.size_toArray, ← vals.length, List.length_map]
        have isl := plain.isList
        obtain ⟨ob, there, _⟩ := id isl
        refine call_set_tx (T := "list") xs (begins_list p us.toArray) isl (fun s' h => let ⟨o, ho, hc, _⟩ := h; ⟨o, ho, hc⟩) PySem.F.sub_list_set PySem.F.sub_list_frozenset (by decide) small (inv.ok.hd calm) (fp := fun I => [I, p]) (St := fun I i h => h.IsListIter I p i ∧ h.IsList p us.toArray)
          (fun A' I hh new => num ▸ Walks.list hh I p (fun z => new ob (z ▸ there)) us.toArray) (fun i v h => strs_place vals h) (fun h hl => ⟨⟨_, Heap.get?_push_size _ rfl, rfl, rfl⟩, hl.at fun o e => Heap.get?_push_of_some _ e⟩) ?_ out
        intro z
        rcases List.mem_cons.mp z with z | z
        · exact absurd z (Nat.ne_of_lt (Nat.lt_succ_self _))
        · exact absurd (Heap.lt_size there) (by rw [← List.mem_singleton.mp z]; exact Nat.lt_irrefl _)
      · obtain ⟨us, vals, ist, _⟩ := inv.tuple stands
        have num : us.toArray.size = xs.length := by rw [List.size_toArray, ← vals.length, List.length_map]
        have ist2 : s.heap.IsTuple p us.toArray := ist
        obtain ⟨ob, there, _⟩ := id ist2
        refine call_set_tx (T := "tuple") xs (begins_tuple p us.toArray) ist2 (fun s' h => let ⟨o, ho, hc, _⟩ := h; ⟨o, ho, hc⟩) PySem.F.sub_tuple_set PySem.F.sub_tuple_frozenset (by decide) small (inv.ok.hd calm) (fp := fun I => [I, p]) (St := fun I i h => h.IsTupleIter I p i ∧ h.IsTuple p us.toArray)
          (fun A' I hh new => num ▸ Walks.tuple hh I p (fun z => new ob (z ▸ there)) us.toArray) (fun i v h => strs_place vals h) (fun h hl => ⟨⟨_, Heap.get?_push_size _ rfl, rfl, rfl⟩, hl.at fun o e => Heap.get?_push_of_some _ e⟩) ?_ out
        intro z
        rcases List.mem_cons.mp z with z | z
        · exact absurd z (Nat.ne_of_lt (Nat.lt_succ_self _))
        · exact absurd (Heap.lt_size there) (by rw [← List.mem_singleton.mp z]; exact Nat.lt_irrefl _)
end Tm

/-! sorted(s), s a set of texts -/
namespace Tm
open PySem PySem.Spec PySem.Calls PyProof.Rows L2 PySem.Froz
theorem perm_full {α : Type} : ∀ (l m : List α), l.Nodup → (∀ x, x ∈ l → x ∈ m) → l.length = m.length → l.Perm m
  | [], m, _, _, h => by
    have e : m = [] := List.eq_nil_of_length_eq_zero h.symm
    rw [e]
  | x :: l, m, nd, sub, h => by
    obtain ⟨u, v, rfl⟩ := List.append_of_mem (sub x List.mem_cons_self)
    have apart := List.nodup_cons.mp nd
    have rest := perm_full l (u ++ v) apart.2 (fun y hy => ?_) (by simp at h ⊢; omega)
    · exact (rest.cons x).trans List.perm_middle.symm
    · have hm := sub y (List.mem_cons_of_mem _ hy)
      have ne : y ≠ x := fun z => apart.1 (z ▸ hy)
      simp only [List.mem_append, List.mem_cons] at hm ⊢
      rcases hm with hm | hm | hm
      · exact .inl hm
      · exact absurd hm ne
      · exact .inr hm
theorem texts_of {P : Program} {w : World} {es : Array (Int × Value)} {ep : Nat} {t : SetTable} {l : List Str} {cells : List Value} (F : TxOk P w (es, ep, t) l) (nodup : l.Nodup) (perm : cells.Perm (es.toList.map (·.2))) : ∃ ss : List Str, StrsAre cells ss ∧ ss.Perm l := by
  have each : ∀ v ∈ cells, ∃ x u, v = Value.str x u := fun v hv => by
    obtain ⟨e, he, rfl⟩ := List.mem_map.mp (perm.mem_iff.mp hv)
    obtain ⟨⟨k, is, _⟩, _⟩ := F.el e he
    obtain ⟨u, e2⟩ := Value.isStrOf_shape is
    exact ⟨k, u, e2⟩
  refine ⟨cells.map strOf, strsAre_map cells each, ?_⟩
  have num : cells.length = l.length := by rw [perm.length_eq, List.length_map, Array.length_toList]; exact F.sz
  have inside : ∀ k, k ∈ l → k ∈ cells.map strOf := fun k hk => by
    obtain ⟨e, he, is⟩ := (F.mem k).mp hk
    refine List.mem_map.mpr ⟨e.2, perm.mem_iff.mpr (List.mem_map.mpr ⟨e, he, rfl⟩), ?_⟩
    obtain ⟨u, e2⟩ := Value.isStrOf_shape is
    rw [e2]
    rfl
  exact (perm_full l _ nodup inside (by rw [List.length_map, num])).symm
theorem call_sortedTexts {X : Cx} (calm : X.calm = true) : CallR X (.builtin "sorted") (fun given H Q => ∃ (a : Addr) (l : List Str), given = [.ref a] ∧ H a = some (SetSO X.w a l) ∧ l.length ≤ 1000 ∧
    ∀ (up : List Str) (p : Addr), up.Perm l → sortedS up = true → H p = none → Q (.ref p) (upd H p (.lst (up.map V.str)))) :=
  fun pins s σ H given held Q inv rel ask => by
    rcases ask with ⟨a, l, rfl, at_a, few, hand⟩
    match held, rel with
    | [_], .cons rfl .nil =>
      obtain ⟨⟨⟨es, ep, t⟩, there, ok, ris, led⟩, nodup⟩ := setSO_get inv at_a
      have F := ok X.prog
      have num : es.size = l.length := F.sz
      apply call_function_entry kind_sorted plain_sorted entry_sorted (args_sorted1 _)
      show wpAny _ _ (collect (.ref a) >>= fun vs => newList vs >>= fun l => holding [l] (call (.builtin "list.sort") [l] []) >>= fun _ => ret l) _ _ s
      apply wpAny_bind
      refine collect_set (es := es) (ep := ep) (t := t) (inv.ok.hd calm) ⟨_, there, rfl, rfl⟩ F.fit (by rw [num]; unfold scanBound; omega) ris led ?_
      intro s1 cells kept grown gens os perm
      have len : cells.length = l.length := by rw [perm.length_eq, List.length_map, Array.length_toList, num]
      have mid : Inv X pins σ H s1 := inv.call' (ch := []) os (Un.kept kept) (inv.hok.kept kept) (by rw [gens]; exact inv.bare) (fun b hb => by cases hb)
      have room : cells.length ≤ sizeLine := by rw [len]; exact Nat.le_trans few (by decide)
      obtain ⟨ss, alls, same⟩ : ∃ ss : List Str, StrsAre cells ss ∧ ss.Perm l := texts_of F nodup perm
      apply wpAny_bind
      apply wpAny_newList (hsz := room)
      have new : (s1.heap.push { cls := .type "list", data := .seq cells.toArray }).get? s1.heap.objs.size = some (seqObj "list" cells.toArray 0) := Heap.get?_push_size _ rfl
      have still : ∀ b o, s1.heap.get? b = some o → (s1.heap.push { cls := .type "list", data := .seq cells.toArray }).get? b = some o := fun b o e => Heap.get?_push_of_some _ e
      have bigger : s1.heap.objs.size < (s1.heap.push { cls := .type "list", data := .seq cells.toArray }).objs.size := Heap.lt_size new
      apply wpAny_bind
      apply wpAny_holding
      refine wpAny_call_entry (T := "list") slot_list_sort ⟨_, new, rfl⟩ entry_list_sort ?_ (args_list_sort _)
      refine list_sort_treeKAny strKind_oneLt new alls.keysOf (fun v₁ v₂ rest e => keyKind_strs (by rw [← e]; exact alls)) room fun st' hp hs => ?_
      obtain ⟨up, whole, order, rise⟩ := sorted_out_str alls hp hs
      refine ⟨_, rfl, wpAny_pure ⟨_, rfl, V.ref s1.heap.objs.size, upd H s1.heap.objs.size (.lst (up.map V.str)), ?_, rfl, hand up _ (order.trans same) rise (mid.hok.fresh (Nat.le_refl _))⟩⟩
      obtain ⟨stamp, there2⟩ := sortedHeap_at (out := (arrOf st').map (·.2)) new
      refine mid.laid (t' := s1.toks) (fun b o e => ?_) (Nat.le_refl _) ⟨?_, ((arrOf st').map (·.2)).toList, stamp, vals_of_strs whole, there2⟩
      · rw [sortedHeap_old (Nat.ne_of_lt (Heap.lt_size e)) (Nat.lt_trans (Heap.lt_size e) bigger)]
        exact still b o e
      · rw [List.length_map, (order.trans same).length_eq]
        exact Nat.le_trans few (by decide)
end Tm

/-! how often a text stands in a list of texts -/
namespace Tm
open PySem PySem.Spec PyProof.Rows L2
theorem count_strs (z : Str) : ∀ ys : List Str, countIn (.str z) (ys.map PyData.str) = ((ys.count z : Nat) : Int)
  | [] => rfl
  | y :: r => by
    show (if same (.str y) (.str z) then (1 : Int) else 0) + countIn (.str z) (r.map PyData.str) = _
    have e : same (.str y) (.str z) = (y == z) := by rfl
    rw [count_strs z r, e, List.count_cons]
    by_cases h : y = z
    · subst h; simp; omega
    · have h2 : (y == z) = false := by simpa using h
      rw [h2]; simp
theorem mt_countS {X : Cx} : MtR X "list.count" (fun x xs H Q => ∃ (p : Addr) (ys : List Str) (z : Str), x = .ref p ∧ xs = [.str z] ∧ SqL X.K H p (ys.map V.str) ∧ Q (.int ((ys.count z : Nat) : Int)) H) := by
  intro pins s σ H x xs v us Q inv rx rxs ask
  obtain ⟨p, ys, z, rfl, rfl, stands, hand⟩ := ask
  cases rx
  match us, rxs with
  | [_], .cons ⟨t, rfl⟩ .nil =>
    obtain ⟨its, vals, plain, _⟩ := inv.list stands
    have sa : StrsAre its ys := vals.strs
    apply count_list_strs plain.isList sa
    rw [count_strs]
    exact ⟨.int _, H, inv.tok _, ⟨_, rfl⟩, hand⟩
end Tm

/-! sums of lists of texts -/
namespace Tm
open PySem PySem.Spec PyProof.Rows L2
/-! ### members -/
theorem addS_mem {l : List Str} {k z : Str} : z ∈ addS l k ↔ z = k ∨ z ∈ l := by
  unfold addS
  split
  · rename_i h
    exact ⟨.inr, fun x => x.elim (fun e => e ▸ h) id⟩
  · exact List.mem_cons
theorem addS_nodup {l : List Str} {k : Str} (h : l.Nodup) : (addS l k).Nodup := by
  unfold addS
  split
  · exact h
  · rename_i n
    exact List.nodup_cons.mpr ⟨n, h⟩
theorem fold_mem : ∀ (xs l : List Str) (z : Str), z ∈ xs.foldl addS l ↔ z ∈ l ∨ z ∈ xs
  | [], l, z => by simp
  | x :: r, l, z => by
    rw [List.foldl_cons, fold_mem r, addS_mem, List.mem_cons]
    constructor
    · rintro ((h | h) | h)
      · exact .inr (.inl h)
      · exact .inl h
      · exact .inr (.inr h)
    · rintro (h | h | h)
      · exact .inl (.inr h)
      · exact .inl (.inl h)
      · exact .inr h
theorem fold_nodup : ∀ (xs l : List Str), l.Nodup → (xs.foldl addS l).Nodup
  | [], _, h => h
  | x :: r, l, h => fold_nodup r (addS l x) (addS_nodup h)
theorem fold_len : ∀ (xs l : List Str), (xs.foldl addS l).length ≤ l.length + xs.length
  | [], _ => Nat.le_refl _
  | x :: r, l => by
    have h := fold_len r (addS l x)
    have g := addS_len l x
    rw [List.foldl_cons, List.length_cons]
    omega
theorem members_mem {xs : List Str} {z : Str} : z ∈ members xs ↔ z ∈ xs := by
  unfold members
  rw [fold_mem]
  simp
theorem members_nodup (xs : List Str) : (members xs).Nodup := fold_nodup xs [] .nil
theorem members_len (xs : List Str) : (members xs).length ≤ xs.length := by
  have h := fold_len xs []
  unfold members
  simpa using h
theorem nodup_len {α : Type} : ∀ (l m : List α), l.Nodup → (∀ x, x ∈ l → x ∈ m) → l.length ≤ m.length
  | [], m, _, _ => Nat.zero_le _
  | x :: l, m, nd, sub => by
    obtain ⟨u, v, rfl⟩ := List.append_of_mem (sub x List.mem_cons_self)
    have apart := List.nodup_cons.mp nd
    have rest := nodup_len l (u ++ v) apart.2 fun y hy => by
      have hm := sub y (List.mem_cons_of_mem _ hy)
      have ne : y ≠ x := fun z => apart.1 (z ▸ hy)
      simp only [List.mem_append, List.mem_cons] at hm ⊢
      rcases hm with hm | hm | hm
      · exact .inl hm
      · exact absurd hm ne
      · exact .inr hm
    simp at rest ⊢
    omega
/-! ### ascending lists -/
def leS (a b : Str) : Prop := a.cps.toList ≤ b.cps.toList
theorem rising_pair : ∀ (l : List Str) (p : Str), risingS p l = true → (p :: l).Pairwise leS
  | [], p, _ => List.pairwise_singleton _ _
  | d :: r, p, h => by
    have h' : (!ltCps d.cps.toList p.cps.toList && risingS d r) = true := h
    rcases Bool.and_eq_true_iff.mp h' with ⟨g1, g2⟩
    have rest := rising_pair r d g2
    have pd : leS p d := by
      have g3 : ltCps d.cps.toList p.cps.toList = false := by simpa using g1
      rw [ltCps_eq] at g3
      exact List.not_lt.mp (of_decide_eq_false g3)
    refine List.pairwise_cons.mpr ⟨fun x hx => ?_, rest⟩
    rcases List.mem_cons.mp hx with rfl | hx
    · exact pd
    · exact List.le_trans pd ((List.pairwise_cons.mp rest).1 x hx)
theorem sorted_pair (l : List Str) (h : sortedS l = true) : l.Pairwise leS := by
  cases l with
  | nil => exact .nil
  | cons p l => exact rising_pair l p h
theorem sorted_one {l m : List Str} (h1 : sortedS l = true) (h2 : sortedS m = true) (p : l.Perm m) : l = m := by
  refine List.Perm.eq_of_pairwise (le := leS) (fun a b _ _ x y => ?_) (sorted_pair l h1) (sorted_pair m h2) p
  have e : a.cps.toList = b.cps.toList := List.le_antisymm x y
  rw [← txt_of a, ← txt_of b, e]
/-! ### how many of the rows hold a text -/
def cnt (z : Str) (rs : List (List Str)) : Nat := rs.countP fun r => decide (z ∈ r)
structure Sums (rs : List (List Str)) (ys : List Str) : Prop where
  sort : sortedS ys = true
  nodup : ys.Nodup
  mem : ∀ z, z ∈ ys ↔ cnt z rs % 2 = 1
theorem Sums.one {rs : List (List Str)} {ys zs : List Str} (a : Sums rs ys) (b : Sums rs zs) : ys = zs := by
  refine sorted_one a.sort b.sort ?_
  exact (List.perm_ext_iff_of_nodup a.nodup b.nodup).mpr fun z => (a.mem z).trans (b.mem z).symm
theorem cnt_snoc (z : Str) (rs : List (List Str)) (r : List Str) : cnt z (rs ++ [r]) = cnt z rs + (if z ∈ r then 1 else 0) := by
  unfold cnt
  rw [List.countP_append, List.countP_singleton]
  by_cases h : z ∈ r <;> simp [h]
/-! ### the dict of the texts that are there -/
def onesK (l : List Str) : List (Key × V) := l.map fun z => (Sum.inr z, V.bl true)
def turnL (l : List Str) (z : Str) : List Str := if z ∈ l then l.filter (fun x => decide (x ≠ z)) else l ++ [z]
theorem ones_val (l : List Str) (z : Str) : valV (onesK l) (Sum.inr z) = if z ∈ l then some (V.bl true) else none := by
  induction l with
  | nil => rfl
  | cons x r ih =>
    show valV ((Sum.inr x, V.bl true) :: onesK r) (Sum.inr z) = _
    by_cases h : x = z
    · subst h
      rw [valV_pos rfl]
      simp
    · rw [valV_neg (fun e => h (Sum.inr.inj e)), ih]
      have h2 : ¬ z = x := fun e => h e.symm
      simp [h2]
theorem ones_drop (l : List Str) (z : Str) : dropK (onesK l) (Sum.inr z) = onesK (l.filter fun x => decide (x ≠ z)) := by
  unfold dropK onesK
  rw [List.filter_map]
  congr 1
  apply List.filter_congr
  intro x _
  show decide ((Sum.inr x : Key) ≠ Sum.inr z) = decide (x ≠ z)
  by_cases h : x = z
  · subst h; simp
  · have h2 : (Sum.inr x : Key) ≠ Sum.inr z := fun e => h (Sum.inr.inj e)
    have h3 : x ≠ z := h
    rw [decide_eq_true h3, decide_eq_true h2]
theorem ones_put {l : List Str} {z : Str} (h : z ∉ l) : putK (onesK l) (Sum.inr z) (V.bl true) = onesK (l ++ [z]) := by
  rw [putK_new _ (by rw [ones_val, if_neg h])]
  unfold onesK
  rw [List.map_append]
  rfl
theorem turn_nodup {l : List Str} {z : Str} (h : l.Nodup) : (turnL l z).Nodup := by
  unfold turnL
  split
  · exact h.filter _
  · rename_i n
    rw [List.nodup_append]
    refine ⟨h, List.nodup_cons.mpr ⟨List.not_mem_nil, .nil⟩, fun a ha b hb e => n ?_⟩
    rw [← List.mem_singleton.mp hb, ← e]
    exact ha
theorem turn_mem {l : List Str} {z x : Str} : x ∈ turnL l z ↔ (x ∈ l ∧ x ≠ z) ∨ (x = z ∧ z ∉ l) := by
  unfold turnL
  by_cases h : z ∈ l
  · rw [if_pos h, List.mem_filter]
    simp [h]
  · rw [if_neg h, List.mem_append, List.mem_singleton]
    constructor
    · rintro (q | q)
      · exact .inl ⟨q, fun e => h (e ▸ q)⟩
      · exact .inr ⟨q, h⟩
    · rintro (q | q)
      · exact .inl q.1
      · exact .inr q.1
/-- all of several texts turned, each once -/
theorem turns_mem : ∀ (ys l : List Str) (x : Str), ys.Nodup → (x ∈ ys.foldl turnL l ↔ ((x ∈ l ∧ x ∉ ys) ∨ (x ∉ l ∧ x ∈ ys)))
  | [], l, x, _ => by simp
  | y :: r, l, x, nd => by
    have apart := List.nodup_cons.mp nd
    rw [List.foldl_cons, turns_mem r _ x apart.2, turn_mem, List.mem_cons]
    by_cases e : x = y
    · subst e
      by_cases hl : x ∈ l <;> simp [hl, apart.1]
    · by_cases hl : x ∈ l <;> by_cases hr : x ∈ r <;> simp [hl, hr, e]
theorem turns_nodup : ∀ (ys l : List Str), l.Nodup → (ys.foldl turnL l).Nodup
  | [], _, h => h
  | y :: r, l, h => turns_nodup r (turnL l y) (turn_nodup h)
/-! ### promises -/
def RowsAt (K : PySem.W.Frag) (H : Hp) (ps : List Addr) (rs : List (List Str)) : Prop :=
  ps.length = rs.length ∧ ∀ (i : Nat) (p : Addr) (r : List Str), ps[i]? = some p → rs[i]? = some r → (SqL K H p (r.map V.str) ∨ SqT K H p (r.map V.str))
theorem same_tup {K : PySem.W.Frag} {H H' : Hp} {a : Addr} {xs : List V} (e : Same H H') (h : SqT K H a xs) : SqT K H' a xs :=
  h.imp (fun seen => seen.imp (e a _) (fun ⟨ob, at_a⟩ => ⟨ob, e a _ at_a⟩)) id
theorem RowsAt.same {K : PySem.W.Frag} {H H' : Hp} {ps : List Addr} {rs : List (List Str)} (h : RowsAt K H ps rs) (s : Same H H') : RowsAt K H' ps rs :=
  ⟨h.1, fun i p r hp hr => (h.2 i p r hp hr).imp (fun x => s.seq x) (fun x => same_tup s x)⟩
def spTurn : Sp := fun vs H Q _ => ∃ (d : Addr) (l : List Str) (z : Str), vs = [.ref d, .str z] ∧ H d = some (.dK (onesK l)) ∧ l.length ≤ 1000 ∧ Q .non (upd H d (.dK (onesK (turnL l z))))
def Few44 (rs : List (List Str)) (U : List Str) : Prop := U.length ≤ 60 ∧ rs.length ≤ 1000 ∧ ∀ r ∈ rs, r.length ≤ 1000 ∧ ∀ z ∈ r, z ∈ U
def spSumL (K : PySem.W.Frag) : Sp := fun vs H Q _ => ∃ (p : Addr) (ps : List Addr) (rs : List (List Str)) (U : List Str), vs = [.ref p] ∧ SqL K H p (ps.map V.ref) ∧ RowsAt K H ps rs ∧ Few44 rs U ∧
  ∀ H' q ys, Same H H' → H q = none → H' q = some (.lst (ys.map V.str)) → Sums rs ys → Q (.ref q) H'
def spSumT (K : PySem.W.Frag) : Sp := fun vs H Q _ => ∃ (p : Addr) (ps : List Addr) (rs : List (List Str)) (U : List Str), vs = [.ref p] ∧ SqT K H p (ps.map V.ref) ∧ RowsAt K H ps rs ∧ Few44 rs U ∧
  ∀ H' q ys, Same H H' → H q = none → H' q = some (.lst (ys.map V.str)) → Sums rs ys → Q (.ref q) H'
def spLSum (K : PySem.W.Frag) : Sp := fun vs H Q _ => ∃ (p : Addr) (ps : List Addr) (rs : List (List Str)), vs = [.ref p] ∧ SqL K H p (ps.map V.ref) ∧ RowsAt K H ps rs ∧ rs.flatten.length ≤ 1000 ∧ (∀ r ∈ rs, r.Nodup) ∧
  ∀ H' q ys, Same H H' → H q = none → H' q = some (.lst (ys.map V.str)) → Sums rs ys → Q (.ref q) H'
theorem flat_cnt (z : Str) : ∀ rs : List (List Str), (∀ r ∈ rs, r.Nodup) → rs.flatten.count z = cnt z rs
  | [], _ => rfl
  | r :: rs, h => by
    have ih := flat_cnt z rs fun x hx => h x (List.mem_cons_of_mem _ hx)
    have e : r.count z = if z ∈ r then 1 else 0 := by
      by_cases hz : z ∈ r
      · rw [if_pos hz]
        have le := List.nodup_iff_count.mp (h r List.mem_cons_self) z
        have ge := List.count_pos_iff.mpr hz
        omega
      · rw [if_neg hz]
        exact List.count_eq_zero_of_not_mem hz
    rw [List.flatten_cons, List.count_append, ih, e]
    unfold cnt
    rw [List.countP_cons]
    by_cases hz : z ∈ r <;> simp [hz]
    omega
def rCountS (K : PySem.W.Frag) : V → List V → Hp → VK → Prop := fun x xs H Q => ∃ (p : Addr) (ys : List Str) (z : Str), x = .ref p ∧ xs = [.str z] ∧ SqL K H p (ys.map V.str) ∧ Q (.int ((ys.count z : Nat) : Int)) H
theorem pair_rising : ∀ (l : List Str) (p : Str), (p :: l).Pairwise leS → risingS p l = true
  | [], _, _ => rfl
  | d :: r, p, h => by
    have h1 := List.pairwise_cons.mp h
    show (!ltCps d.cps.toList p.cps.toList && risingS d r) = true
    have g : ltCps d.cps.toList p.cps.toList = false := by
      rw [ltCps_eq]
      exact decide_eq_false (List.not_lt.mpr (h1.1 d List.mem_cons_self))
    rw [g, pair_rising r d h1.2]
    rfl
theorem pair_sorted (l : List Str) (h : l.Pairwise leS) : sortedS l = true := by
  cases l with
  | nil => rfl
  | cons p l => exact pair_rising l p h
theorem sorted_filter {l : List Str} (h : sortedS l = true) (f : Str → Bool) : sortedS (l.filter f) = true := pair_sorted _ ((sorted_pair l h).filter f)
/-! ### rules as they stand within a comprehension -/
def rListOf (K : PySem.W.Frag) : List V → Hp → VK → Prop := fun xs H Q => ∃ p ys, xs = [.ref p] ∧ (SqL K H p ys ∨ SqT K H p ys) ∧ ∀ l, H l = none → Q (.ref l) (upd H l (.lst ys))
theorem cr_listOf {X : Cx} : CallR X (.type "list") (rListOf X.K) := call_list_of
def rSetT (K : PySem.W.Frag) (w : World) : List V → Hp → VK → Prop := fun given H Q => ∃ (p : Addr) (xs : List Str), given = [.ref p] ∧ (SqL K H p (xs.map V.str) ∨ SqT K H p (xs.map V.str)) ∧ xs.length ≤ 1000 ∧ ∀ a, H a = none → Q (.ref a) (upd H a (SetSO w a (members xs)))
theorem cr_setT {X : Cx} (calm : X.calm = true) : CallR X (.type "set") (rSetT X.K X.w) := call_setTexts calm
def rSortT (w : World) : List V → Hp → VK → Prop := fun given H Q => ∃ (a : Addr) (l : List Str), given = [.ref a] ∧ H a = some (SetSO w a l) ∧ l.length ≤ 1000 ∧ ∀ (up : List Str) (p : Addr), up.Perm l → sortedS up = true → H p = none → Q (.ref p) (upd H p (.lst (up.map V.str)))
theorem cr_sortT {X : Cx} (calm : X.calm = true) : CallR X (.builtin "sorted") (rSortT X.w) := call_sortedTexts calm
theorem tupOf {X : Cx} : CallR X (.type "tuple") (fun given H Q => ∃ p ys, given = [.ref p] ∧ H p = some (.lst ys) ∧ ∀ l, H l = none → Q (.ref l) (upd H l (.tup ys))) :=
  fun pins s σ H given held Q inv rel ask => by
    obtain ⟨p, ys, e, hp, q⟩ := ask
    exact call_tuple_of pins s σ H given held Q inv rel ⟨p, ys, e, .inl ⟨SqL.of hp, q⟩⟩
/-! ### rows in memory -/
structure RowsL (H : Hp) (qs : List Addr) (rs : List (List Str)) : Prop where
  len : qs.length = rs.length
  at_ : ∀ (i : Nat) (q : Addr) (r : List Str), qs[i]? = some q → rs[i]? = some r → H q = some (.lst (r.map V.str))
theorem RowsL.nil (H : Hp) : RowsL H [] [] := ⟨rfl, fun i q r h => by cases h⟩
theorem RowsL.same {H H' : Hp} {qs : List Addr} {rs : List (List Str)} (h : RowsL H qs rs) (s : Same H H') : RowsL H' qs rs := ⟨h.len, fun i q r hq hr => s _ _ (h.at_ i q r hq hr)⟩
theorem RowsL.kp {b : Addr} {H H' : Hp} {qs : List Addr} {rs : List (List Str)} (h : RowsL H qs rs) (k : Kp b H H') (n : ∀ q ∈ qs, q ≠ b) : RowsL H' qs rs :=
  ⟨h.len, fun i q r hq hr => k _ _ (n q (List.mem_of_getElem? hq)) (h.at_ i q r hq hr)⟩
theorem RowsL.put {H : Hp} {o : Addr} {ob : HO} {qs : List Addr} {rs : List (List Str)} (h : RowsL H qs rs) (n : ∀ q ∈ qs, q ≠ o) : RowsL (upd H o ob) qs rs :=
  ⟨h.len, fun i q r hq hr => by rw [upd_ne (n q (List.mem_of_getElem? hq))]; exact h.at_ i q r hq hr⟩
theorem RowsL.snoc {H : Hp} {qs : List Addr} {rs : List (List Str)} {q : Addr} {r : List Str} (h : RowsL H qs rs) (hq : H q = some (.lst (r.map V.str))) : RowsL H (qs ++ [q]) (rs ++ [r]) := by
  refine ⟨by rw [List.length_append, List.length_append, h.len]; rfl, fun i a c ha hc => ?_⟩
  by_cases lt : i < qs.length
  · rw [List.getElem?_append_left lt] at ha
    rw [List.getElem?_append_left (by rw [← h.len]; exact lt)] at hc
    exact h.at_ i a c ha hc
  · rw [List.getElem?_append_right (by omega)] at ha
    rw [List.getElem?_append_right (by rw [← h.len]; omega)] at hc
    have hi : i - qs.length = 0 := by
      have := (List.getElem?_eq_some_iff.mp ha).1
      simp at this
      omega
    rw [hi] at ha
    rw [← h.len, hi] at hc
    cases ha
    cases hc
    exact hq
theorem RowsL.rows {K : PySem.W.Frag} {H : Hp} {qs : List Addr} {rs : List (List Str)} (h : RowsL H qs rs) : RowsAt K H qs rs := ⟨h.len, fun i q r hq hr => .inl (SqL.of (h.at_ i q r hq hr))⟩
theorem RowsAt.twice {K : PySem.W.Frag} {H : Hp} {qs : List Addr} {rs : List (List Str)} (h : RowsAt K H qs rs) : RowsAt K H (qs ++ qs) (rs ++ rs) := by
  refine ⟨by rw [List.length_append, List.length_append, h.1], fun i q r hq hr => ?_⟩
  by_cases lt : i < qs.length
  · rw [List.getElem?_append_left lt] at hq
    rw [List.getElem?_append_left (by rw [← h.1]; exact lt)] at hr
    exact h.2 i q r hq hr
  · rw [List.getElem?_append_right (by omega)] at hq
    rw [List.getElem?_append_right (by rw [← h.1]; omega), ← h.1] at hr
    exact h.2 _ q r hq hr
theorem dp_txts {K : PySem.W.Frag} {H : Hp} : ∀ zs : List Str, DpAll K H (zs.map V.str) (zs.map PyData.str)
  | [] => .nil
  | z :: r => .cons (.str z) (dp_txts r)
theorem dp_rows {K : PySem.W.Frag} {H : Hp} : ∀ (qs : List Addr) (rs : List (List Str)), RowsL H qs rs → DpAll K H (qs.map V.ref) (rs.map fun r => PyData.list (r.map PyData.str))
  | [], [], _ => .nil
  | [], _ :: _, h => absurd h.len (by simp)
  | _ :: _, [], h => absurd h.len (by simp)
  | q :: qs, r :: rs, h => .cons (.lst (SqL.of (h.at_ 0 q r rfl rfl)) (dp_txts r)) (dp_rows qs rs ⟨Nat.succ.inj h.len, fun i a c ha hc => h.at_ (i + 1) a c ha hc⟩)
theorem Sums.empty {rs : List (List Str)} {ys : List Str} (h : Sums (rs ++ rs) ys) : ys = [] := by
  cases ys with
  | nil => rfl
  | cons y r =>
    have e := (h.mem y).mp List.mem_cons_self
    unfold cnt at e
    rw [List.countP_append] at e
    omega
theorem Sums.nil {ys : List Str} (h : Sums [] ys) : ys = [] := Sums.empty (rs := []) h
/-- the same members row by row -/
theorem cnt_members (z : Str) : ∀ (rs ms : List (List Str)), rs.length = ms.length → (∀ (i : Nat) (r m : List Str), rs[i]? = some r → ms[i]? = some m → (z ∈ m ↔ z ∈ r)) → cnt z ms = cnt z rs
  | [], [], _, _ => rfl
  | [], _ :: _, h, _ => absurd h (by simp)
  | _ :: _, [], h, _ => absurd h (by simp)
  | r :: rs, m :: ms, h, e => by
    have ih := cnt_members z rs ms (Nat.succ.inj h) fun i r m hr hm => e (i + 1) r m hr hm
    have e0 := e 0 r m rfl rfl
    unfold cnt at ih ⊢
    rw [List.countP_cons, List.countP_cons, ih]
    by_cases hz : z ∈ r
    · simp [hz, e0.mpr hz]
    · have hm : z ∉ m := fun q => hz (e0.mp q)
      simp [hz, hm]
theorem eqv_txts {H : Hp} {p q : Addr} {ys : List Str} (hp : H p = some (.lst (ys.map V.str))) (hq : H q = some (.lst (ys.map V.str))) (few : ys.length ≤ 10000) : Eqv H 1 (.ref p) (.ref q) := by
  refine .lst hp hq rfl (by rw [List.length_map]; exact few) fun i x y hx hy => ?_
  rw [hx] at hy
  cases hy
  obtain ⟨z, _, rfl⟩ := List.mem_map.mp (List.mem_of_getElem? hx)
  exact .str _ _
/-! ### data of texts -/
theorem lay_txts : ∀ zs : List Str, (∀ z ∈ zs, PyData.strOk z = true) → PyData.canLayAll0 (zs.map PyData.str) = true
  | [], _ => by simp [PyData.canLayAll0]
  | z :: r, h => by
    have ih := lay_txts r fun x hx => h x (List.mem_cons_of_mem _ hx)
    simp [PyData.canLayAll0, PyData.canLay0, ih, h z List.mem_cons_self]
theorem dep_txts : ∀ zs : List Str, PyData.depthAll (zs.map PyData.str) ≤ 1
  | [] => by simp [PyData.depthAll]
  | z :: r => by
    have ih := dep_txts r
    simp [PyData.depthAll, PyData.depth]
    omega
theorem lay_rows : ∀ rs : List (List Str), (∀ r ∈ rs, ∀ z ∈ r, PyData.strOk z = true) → PyData.canLayAll0 (rs.map fun r => PyData.list (r.map PyData.str)) = true
  | [], _ => by simp [PyData.canLayAll0]
  | r :: rs, h => by
    have ih := lay_rows rs fun x hx => h x (List.mem_cons_of_mem _ hx)
    have h1 := lay_txts r (h r List.mem_cons_self)
    rw [List.map_cons, PyData.canLayAll0, ih, Bool.and_true, PyData.canLay0]
    exact h1
theorem dep_rows : ∀ rs : List (List Str), PyData.depthAll (rs.map fun r => PyData.list (r.map PyData.str)) ≤ 3
  | [] => by simp [PyData.depthAll]
  | r :: rs => by
    have ih := dep_rows rs
    have h1 := dep_txts r
    rw [List.map_cons, PyData.depthAll, PyData.depth]
    omega
theorem shaped_rows {rs : List (List Str)} (h : ∀ r ∈ rs, ∀ z ∈ r, PyData.strOk z = true) : SeqAt.shaped (.list (rs.map fun r => PyData.list (r.map PyData.str))) = true := by
  have d := dep_rows rs
  unfold SeqAt.shaped
  rw [PyData.canLay0, lay_rows rs h, PyData.depth, Bool.true_and]
  exact decide_eq_true (by omega)
theorem eqv_rows {rs : List (List Str)} (h : ∀ r ∈ rs, ∀ z ∈ r, PyData.strOk z = true) : PyData.eqv (.list (rs.map fun r => PyData.list (r.map PyData.str))) (.list (rs.map fun r => PyData.list (r.map PyData.str))) = true :=
  SeqAt.eqv_refl _ (SeqAt.canLay_of_shaped (shaped_rows h))
end Tm

namespace T44
open PySem PySem.Spec PyProof.Rows L2 Tm
def topS (i : Nat) : Stmt := PySem.Challenge.pw_threadmark_k44_sums_of_lists.main.body.getD i (.Pass ⟨0, 0, 0, 0⟩)
abbrev sBag : Stmt := topS 4
abbrev sPull : Stmt := topS 5
abbrev sOf : Stmt := topS 6
theorem scBag : FnScope ["_law_script", "_law_salt", "_law_cell"] ["_law_script"] (defScope sBag) := ⟨rfl, rfl, rfl, by decide +kernel, rfl, by decide +kernel, by decide +kernel⟩
theorem scPull : FnScope ["_law_bag_here", "_law_many", "_law_cell", "_law_digit", "_law_square"] ["_law_bag_here", "_law_many"] (defScope sPull) := ⟨rfl, rfl, rfl, by decide +kernel, rfl, by decide +kernel, by decide +kernel⟩
theorem scOf : FnScope ["_law_bag_here", "_law_things"] ["_law_bag_here", "_law_things"] (defScope sOf) := ⟨rfl, rfl, rfl, by decide +kernel, rfl, by decide +kernel, by decide +kernel⟩
section
variable {P : Program} {w : World} {K : PySem.W.Frag} {mg : Str → Option Value} {base : Heap}
theorem ok_bag {f : Addr} {fd : FuncData} (F : Fun K "_law_bag" "_law_bag" sBag f fd) (ml : mg "list" = none) : FnOk P w K mg base CX0 1 f fd ["_law_script"] (spBag K) := by
  refine F.ok scBag (fun vs H Q E h => ?_) (fun cdv A outer s H vs Q E hr h => ?_)
  · obtain ⟨a, ns, rfl, _⟩ := h
    rfl
  · obtain ⟨a, ns, rfl, hS, q⟩ := h
    refine ⟨_, pss_cons (ps_set (i := 1) scBag.nd rfl (.inl rfl) pe_int)
      (pss_cons (ps_for PassesOwn.never rfl (pi_list (pe_slice sl_list (pv 0) po_none (po_some pe_int))) (pg_name (i := 2) scBag.nd rfl (.inl rfl))
        (pss_one (ps_set (i := 1) scBag.nd rfl (.inl rfl) (pe_op op_mod (pe_op op_add (pe_op op_add (pe_op op_mul (pv 1) pe_int) (pe_op op_mod (pv 2) pe_int)) pe_int) pe_int))))
      (pss_one (ps_ret (pe_lst (pa_cons (pe_callTy call_list_of (by rfl) ml boot_list (pa_cons (pe_slice sl_list (pv 0) po_none (po_some pe_int)) pa_nil)) (pa_cons pe_int (pa_cons pe_int (pa_cons (pv 1) pa_nil)))))))), ?_⟩
    refine ⟨.ref a, rfl, 63, rfl, a, ns.map V.int, rfl, hS, fun p np => ?_⟩
    have s1 : Same H (upd H p (.lst (cutV (ns.map V.int) none (some 63)))) := same_upd np
    refine ⟨p, rfl, ⟨_, .inl (.inl upd_same)⟩, for_list (K := K) (a := p) (xs := cutV (ns.map V.int) none (some 63))
      (fun i σ H' => ∃ (z : Int) (y : Option V), σ = [some (.ref a), some (.int z), y] ∧ 0 ≤ z ∧ z < 2147483549 ∧ H' = upd H p (.lst (cutV (ns.map V.int) none (some 63)))) ⟨3808, none, rfl, by decide, by decide, rfl⟩
      (fun i σ H' _ ⟨_, _, _, _, _, e⟩ => by rw [e]; exact .inl (.inl upd_same)) ?_ ?_⟩
    · rintro i y σ H' hi ⟨z, y0, rfl, h0, h1, rfl⟩
      obtain ⟨u, rfl⟩ := cut_int hi
      refine ⟨_, rfl, _, _, rfl, rfl, .inl ⟨by omega, by omega⟩, _, rfl, _, _, rfl, rfl, (by dsimp only; decide), _, _, rfl, rfl, _, _, rfl, rfl, _, _, rfl, rfl, (by dsimp only; decide), ?_⟩
      refine ⟨_, _, rfl, Int.emod_nonneg _ (by decide), Int.emod_lt_of_pos _ (by decide), rfl⟩
    · rintro σ H' ⟨z, y0, rfl, h0, h1, rfl⟩
      refine ⟨.ref a, rfl, 63, rfl, a, ns.map V.int, rfl, s1.seq hS, fun p2 np2 => ?_⟩
      refine ⟨p2, _, rfl, .inl (.inl (.inl upd_same)), fun l nl => ?_⟩
      refine ⟨.int z, rfl, (by show 4 ≤ sizeLine; decide), fun b nb => ?_⟩
      have e2 := (same_upd (o := .lst (cutV (ns.map V.int) none (some 63))) np2)
      have e3 := (same_upd (o := .lst (cutV (ns.map V.int) none (some 63))) nl)
      have e4 := (same_upd (o := .lst [.ref l, .int 0, .int 0, .int z]) nb)
      have f4 := ((s1.trans e2).trans e3).free nb
      have f3 := (s1.trans e2).free nl
      obtain ⟨ms, em⟩ := cut_ints ns none (some 63)
      refine q _ b l (((s1.trans e2).trans e3).trans e4) f4 f3 ⟨ms, 0, 0, z, upd_same, ?_, by decide, by decide, h0, h1⟩
      rw [← em]
      exact e4 _ _ upd_same

theorem ok_pull {f : Addr} {fd : FuncData} (F : Fun K "_law_pull" "_law_pull" sPull f fd) (ml : mg "len" = none) : FnOk P w K mg base CX0 1 f fd ["_law_bag_here", "_law_many"] spPull := by
  refine F.ok scPull (fun vs H Q E h => ?_) (fun cdv A outer s H vs Q E hr h => ?_)
  · obtain ⟨b, l, m, rfl, _⟩ := h
    rfl
  · obtain ⟨b, l, m, rfl, B, hm0, hm1, q⟩ := h
    refine ⟨_, pss_cons (ps_if (PW.pt (pw_and (pt_cmpR op_lt (pe_ix ix_list (pv 0) pe_int (fun _ _ => rfl)) (pv 1) (nomark _)) (pw_and1 (pt_cmpR op_lt (pe_ix ix_list (pv 0) pe_int (fun _ _ => rfl)) (pe_callB call_len_seq (by rfl) ml PySem.boot_len (pa_cons (pe_ix ix_list (pv 0) pe_int (fun _ _ => rfl)) pa_nil)) (nomark _)))))
        (pss_cons (ps_set (i := 2) scPull.nd rfl (.inl rfl) (pe_ix ix_list (pe_ix ix_list (pv 0) pe_int (fun _ _ => rfl)) (pe_ix ix_list (pv 0) pe_int (fun _ _ => rfl)) (fun _ _ => rfl)))
        (pss_cons (ps_asg (pe_op op_add (pe_ix ix_list (pv 0) pe_int (fun _ _ => rfl)) pe_int) (pg_sub (pv 0) pe_int set_list))
        (pss_cons (ps_asg pe_int (pg_sub (pv 0) pe_int set_list))
        (pss_one (ps_if (pt_cmpR op_ge (pv 2) (pe_op op_pow pe_int pe_int) (nomark _)) (pss_one (ps_asg (pv 2) (pg_sub (pv 0) pe_int set_list)))
          (pss_one (ps_asg (pe_op op_mod (pe_op op_add (pe_op op_add (pe_op op_mul (pe_ix ix_list (pv 0) pe_int (fun _ _ => rfl)) pe_int) (pe_op op_mul (pe_op op_mod (pv 2) pe_int) pe_int)) pe_int) pe_int) (pg_sub (pv 0) pe_int set_list))))))))
        pss_nil)
      (pss_cons (ps_if (pt_cmpR op_ge (pe_ix ix_list (pv 0) pe_int (fun _ _ => rfl)) (pv 1) (nomark _))
        (pss_cons (ps_set (i := 3) scPull.nd rfl (.inl rfl) (pe_op op_mod (pe_ix ix_list (pv 0) pe_int (fun _ _ => rfl)) (pv 1)))
        (pss_cons (ps_asg (pe_op op_fdiv (pe_ix ix_list (pv 0) pe_int (fun _ _ => rfl)) (pv 1)) (pg_sub (pv 0) pe_int set_list))
        (pss_one (ps_ret (pv 3))))) pss_nil)
      (pss_cons (ps_set (i := 4) scPull.nd rfl (.inl rfl) (pe_op op_mod (pe_op op_mul (pe_ix ix_list (pv 0) pe_int (fun _ _ => rfl)) (pe_ix ix_list (pv 0) pe_int (fun _ _ => rfl))) pe_int))
      (pss_cons (ps_asg (pe_op op_mod (pe_op op_add (pe_op op_add (pe_op op_mul (pv 4) pe_int) (pe_op op_mul (pe_ix ix_list (pv 0) pe_int (fun _ _ => rfl)) pe_int)) pe_int) pe_int) (pg_sub (pv 0) pe_int set_list))
      (pss_one (ps_ret (pe_op op_mod (pe_op op_add (pe_op op_fdiv (pe_ix ix_list (pv 0) pe_int (fun _ _ => rfl)) pe_int) (pe_op op_mul (pe_op op_mod (pe_ix ix_list (pv 0) pe_int (fun _ _ => rfl)) pe_int) pe_int)) (pv 1))))))), ?_⟩
    refine cut (fun σ' H' => ∃ y, σ' = [some (.ref b), some (.int m), y, none, none] ∧ Bag H' b l ∧ Kp b H H') (fun σ1 H1 hp => ?tail) (fun N hN => ?head)
    case head =>
      obtain ⟨xs, i, n, z, hb, hl, i0, n0, z0, z1⟩ := id B
      have nlb := bag_ne hb hl
      refine ⟨_, rfl, b, _, 2, .int n, rfl, rfl, SqL.of hb, rfl, _, rfl, _, _, rfl, rfl, _, rfl, ite2 (fun hlt => ?_) (fun _ => ?_)⟩
      · refine ⟨_, rfl, b, _, 1, .int i, rfl, rfl, SqL.of hb, rfl, _, rfl, b, _, 0, .ref l, rfl, rfl, SqL.of hb, rfl, l, _, rfl, .inl (SqL.of hl), _, _, rfl, rfl, _, rfl, ite2 (fun hlt2 => ?_) (fun _ => ?_)⟩
        · have hi : i < ((xs.map V.int).length : Int) := of_decide_eq_true hlt2
          rw [List.length_map] at hi
          obtain ⟨j, rfl⟩ : ∃ j : Nat, i = j := ⟨i.toNat, by omega⟩
          have hj : j < xs.length := by omega
          have gj : (xs.map V.int)[j]? = some (.int xs[j]) := by
            rw [List.getElem?_map, List.getElem?_eq_getElem hj]; rfl
          generalize xs[j] = c at gj
          refine ⟨_, rfl, b, _, 0, .ref l, rfl, rfl, SqL.of hb, rfl, _, rfl, b, _, 1, .int j, rfl, rfl, SqL.of hb, rfl, l, _, j, .int c, rfl, rfl, SqL.of hl, atI_nat gj, ?_⟩
          refine ⟨_, rfl, b, _, 1, .int j, rfl, rfl, SqL.of hb, rfl, _, _, rfl, rfl, _, rfl, b, _, 1, 1, rfl, rfl, hb, rfl, ?_⟩
          refine ⟨_, rfl, b, _, 2, 2, rfl, rfl, upd_same, rfl, ?_⟩
          rw [upd_upd]
          refine ⟨_, rfl, _, _, rfl, rfl, ⟨by decide, by decide, by decide⟩, _, _, rfl, rfl, _, rfl, ite2 (fun hge => ?_) (fun _ => ?_)⟩
          · refine ⟨_, rfl, _, rfl, b, _, 2, 2, rfl, rfl, upd_same, rfl, ?_⟩
            rw [upd_upd]
            refine hN _ _ ⟨_, rfl, ⟨xs, _, _, _, upd_same, by rw [upd_ne nlb]; exact hl, by omega, ?_, z0, z1⟩, Kp.set⟩
            have e := of_decide_eq_true hge
            have e2 : (0 : Int) ≤ 10 ^ (18 : Int).toNat := by decide
            omega
          · refine ⟨_, rfl, b, _, 3, .int z, rfl, rfl, SqL.of upd_same, rfl, _, _, rfl, rfl, .inl ⟨by omega, by omega⟩, _, rfl, _, _, rfl, rfl, (by dsimp only; decide), _, _, rfl, rfl, .inr ⟨by decide, by decide⟩, _, _, rfl, rfl, _, _, rfl, rfl, _, _, rfl, rfl, (by dsimp only; decide), _, rfl, b, _, 3, 3, rfl, rfl, upd_same, rfl, ?_⟩
            rw [upd_upd]
            exact hN _ _ ⟨_, rfl, ⟨xs, _, _, _, upd_same, by rw [upd_ne nlb]; exact hl, by omega, by decide, Int.emod_nonneg _ (by decide), Int.emod_lt_of_pos _ (by decide)⟩, Kp.set⟩
        · exact hN _ _ ⟨_, rfl, B, Kp.refl _ _⟩
      · exact hN _ _ ⟨_, rfl, B, Kp.refl _ _⟩
    case tail =>
      obtain ⟨y, rfl, ⟨xs, i, n, z, hb, hl, i0, n0, z0, z1⟩, kp⟩ := hp
      have nlb := bag_ne hb hl
      refine ⟨_, rfl, b, _, 2, .int n, rfl, rfl, SqL.of hb, rfl, _, rfl, _, _, rfl, rfl, _, rfl, ite2 (fun hge => ?_) (fun _ => ?_)⟩
      · refine ⟨_, rfl, b, _, 2, .int n, rfl, rfl, SqL.of hb, rfl, _, rfl, _, _, rfl, rfl, hm0, ?_⟩
        refine ⟨_, rfl, b, _, 2, .int n, rfl, rfl, SqL.of hb, rfl, _, rfl, _, _, rfl, rfl, ⟨hm0, hm1⟩, _, rfl, b, _, 2, 2, rfl, rfl, hb, rfl, ?_⟩
        refine ⟨_, rfl, ?_⟩
        exact q _ _ (kp.trans Kp.set) ⟨xs, _, _, _, upd_same, by rw [upd_ne nlb]; exact hl, i0, Int.ediv_nonneg n0 (by omega), z0, z1⟩ (Int.emod_nonneg _ (by omega)) (Int.emod_lt_of_pos _ hm0)
      · refine ⟨_, rfl, b, _, 3, .int z, rfl, rfl, SqL.of hb, rfl, _, rfl, b, _, 3, .int z, rfl, rfl, SqL.of hb, rfl, _, _, rfl, rfl, .inl ⟨by omega, by omega⟩, _, _, rfl, rfl, (by dsimp only; decide), ?_⟩
        have w0 : 0 ≤ z * z % 2147483549 := Int.emod_nonneg _ (by decide)
        have w1 : z * z % 2147483549 < 2147483549 := Int.emod_lt_of_pos _ (by decide)
        refine ⟨_, rfl, _, _, rfl, rfl, .inl ⟨by omega, by omega⟩, _, rfl, b, _, 3, .int z, rfl, rfl, SqL.of hb, rfl, _, _, rfl, rfl, .inl ⟨by omega, by omega⟩, _, _, rfl, rfl, _, _, rfl, rfl, _, _, rfl, rfl, (by dsimp only; decide), _, rfl, b, _, 3, 3, rfl, rfl, hb, rfl, ?_⟩
        refine ⟨_, rfl, b, _, 3, _, rfl, rfl, SqL.of upd_same, rfl, _, _, rfl, rfl, ⟨by decide, by decide⟩, _, rfl, b, _, 3, _, rfl, rfl, SqL.of upd_same, rfl, _, _, rfl, rfl, (by dsimp only; decide), _, _, rfl, rfl, .inr ⟨by decide, by decide⟩, _, _, rfl, rfl, _, rfl, _, _, rfl, rfl, hm0, ?_⟩
        exact q _ _ (kp.trans Kp.set) ⟨xs, _, _, _, upd_same, by rw [upd_ne nlb]; exact hl, i0, n0, Int.emod_nonneg _ (by decide), Int.emod_lt_of_pos _ (by decide)⟩ (Int.emod_nonneg _ (by omega)) (Int.emod_lt_of_pos _ hm0)
end

abbrev sMixed : Stmt := topS 7
theorem scMixed : FnScope ["_law_bag_here", "_law_things", "_law_left", "_law_found", "_law_turn"] ["_law_bag_here", "_law_things"] (defScope sMixed) := ⟨rfl, rfl, rfl, by decide +kernel, rfl, by decide +kernel, by decide +kernel⟩
section
variable {P : Program} {w : World} {K : PySem.W.Frag} {mg : Str → Option Value} {base : Heap}
theorem ok_of {f fP : Addr} {fd fdP : FuncData} (F : Fun K "_law_of" "_law_of" sOf f fd) (FP : Fun K "_law_pull" "_law_pull" sPull fP fdP) (bP : Binds K fdP ["_law_bag_here", "_law_many"] []) (gP : mg "_law_pull" = some (.ref fP)) (ml : mg "len" = none) : FnOk P w K mg base CX0 2 f fd ["_law_bag_here", "_law_things"] (spOf K) := by
  have GP : FnOk P w K mg base CX0 1 fP fdP ["_law_bag_here", "_law_many"] spPull := ok_pull FP ml
  refine F.ok scOf (fun vs H Q E h => ?_) (fun cdv A outer s H vs Q E hr h => ?_)
  · obtain ⟨b, l, t, xs, rfl, _⟩ := h
    rfl
  · obtain ⟨b, l, t, xs, rfl, B, hT, h0, h1, q⟩ := h
    refine ⟨_, pss_one (ps_ret (pe_ix ix_seq (pv 1) (pe_call GP hr (by rfl) gP FP.kp bP .nil pass0 (pa_cons (pv 0) (pa_cons (pe_callB call_len (by rfl) ml PySem.boot_len (pa_cons (pv 1) pa_nil)) pa_nil))) (fun _ _ => rfl))), ?_⟩
    rcases hT with ⟨a, rfl, nab, hS⟩ | ⟨z, rfl, hz, rfl⟩
    · refine ⟨_, rfl, _, rfl, _, rfl, _, _, rfl, .inl ⟨_, hS, rfl⟩, b, l, _, rfl, B, by omega, by omega, fun H' d kp B' d0 d1 => ?_⟩
      obtain ⟨j, rfl⟩ : ∃ j : Nat, d = j := ⟨d.toNat, by omega⟩
      have hj : j < xs.length := by omega
      exact .inl ⟨a, xs, _, xs[j], rfl, rfl, kp.seq nab hS, atI_nat (List.getElem?_eq_getElem hj), q _ _ kp B' (List.getElem_mem hj)⟩
    · rw [List.length_map, Array.length_toList] at h0 h1
      refine ⟨_, rfl, _, rfl, _, rfl, _, _, rfl, ⟨hz, rfl⟩, b, l, _, rfl, B, ?_, ?_, fun H' d kp B' d0 d1 => ?_⟩
      · show (0 : Int) < ((z.cps.size : Nat) : Int)
        omega
      · show ((z.cps.size : Nat) : Int) < 1073741824
        omega
      · have d2 : d < ((z.cps.size : Nat) : Int) := d1
        obtain ⟨j, rfl⟩ : ∃ j : Nat, d = j := ⟨d.toNat, by omega⟩
        have hj : j < z.cps.toList.length := by rw [Array.length_toList]; omega
        refine .inr (.inr ⟨z, _, z.cps.toList[j], rfl, rfl, hz, atI_nat (List.getElem?_eq_getElem hj), q _ _ kp B' ?_⟩)
        exact List.mem_map.mpr ⟨_, List.getElem_mem hj, rfl⟩
theorem ok_mixed {f fP : Addr} {fd fdP : FuncData} (F : Fun K "_law_mixed" "_law_mixed" sMixed f fd) (FP : Fun K "_law_pull" "_law_pull" sPull fP fdP) (bP : Binds K fdP ["_law_bag_here", "_law_many"] []) (gP : mg "_law_pull" = some (.ref fP)) (ml : mg "len" = none)
    (mli : mg "list" = none) (mr : mg "range" = none) : FnOk P w K mg base CX0 2 f fd ["_law_bag_here", "_law_things"] (spMixed K) := by
  have GP : FnOk P w K mg base CX0 1 fP fdP ["_law_bag_here", "_law_many"] spPull := ok_pull FP ml
  refine F.ok scMixed (fun vs H Q E h => ?_) (fun cdv A outer s H vs Q E hr h => ?_)
  · obtain ⟨b, l, a, xs, rfl, _⟩ := h
    rfl
  · obtain ⟨b, l, a, xs, rfl, B, nab, hS, hlen, q⟩ := h
    refine ⟨_, pss_cons (ps_par (i := 2) (j := 3) (by rfl) scMixed.nd rfl rfl (by decide) rfl rfl (pa_cons (pe_callTy call_list_of (by rfl) mli boot_list (pa_cons (pv 1) pa_nil)) (pa_cons (pe_lst pa_nil) pa_nil)) (by rfl))
      (pss_cons (ps_for PassesOwn.never rfl (pi_range1 (by rfl) mr (pa_cons (pe_callB call_len_seq (by rfl) ml PySem.boot_len (pa_cons (pv 1) pa_nil)) pa_nil)) (pg_name (i := 4) scMixed.nd rfl (.inl rfl))
        (pss_one (ps_expr (pe_bm PySem.F.plainAttrs_list PySem.F.slot_list_append PySem.F.type_list_append mt_append (pv 3) (pa_cons (pe_bm PySem.F.plainAttrs_list PySem.F.slot_list_pop PySem.F.type_list_pop mt_popAt (pv 2)
          (pa_cons (pe_call GP hr (by rfl) gP FP.kp bP .nil pass0 (pa_cons (pv 0) (pa_cons (pe_callB call_len_seq (by rfl) ml PySem.boot_len (pa_cons (pv 2) pa_nil)) pa_nil))) pa_nil)) pa_nil)))))
      (pss_one (ps_ret (pv 3)))), ?_⟩
    refine ⟨_, rfl, a, xs, rfl, .inl hS, fun p np => ⟨Nat.zero_le _, fun o no => ⟨_, _, rfl, ?_⟩⟩⟩
    have npo : p ≠ o := fun e => by rw [e] at no; rw [← e, upd_same] at no; cases no
    have no0 : H o = none := by rw [upd_ne npo.symm] at no; exact no
    have k2 : Kp b H (upd (upd H p (.lst xs)) o (.lst [])) := (Kp.new np).put no0
    have B2 : Bag (upd (upd H p (.lst xs)) o (.lst [])) b l := (B.new np).put (B.nb no0) (B.nl no0)
    have ea : (((xs.length : Nat) : Int)).toNat = xs.length := by omega
    refine ⟨_, rfl, a, xs, rfl, .inl (k2.seq nab hS), _, rfl, by omega, by omega, ?_⟩
    rw [ea]
    refine for_range (lo := 0) (n := xs.length) (fun i σ H' => ∃ (ys zs : List V) (y : Option V), σ = [some (.ref b), some (.ref a), some (.ref p), some (.ref o), y] ∧ Kp b H H' ∧ Bag H' b l ∧ H' p = some (.lst zs) ∧ H' o = some (.lst ys) ∧ (ys ++ zs).Perm xs ∧ ys.length = i)
      ⟨[], xs, none, rfl, k2, B2, by rw [upd_ne npo, upd_same], upd_same, .refl _, rfl⟩ ?_ ?_
    · rintro i σ H' hi ⟨ys, zs, y, rfl, kp, B', hp, ho, pm, hy⟩
      have hzl : ys.length + zs.length = xs.length := by
        have e := pm.length_eq
        rw [List.length_append] at e
        exact e
      refine ⟨_, rfl, .inl ⟨rfl, _, SqL.of ho⟩, _, rfl, .inl ⟨rfl, _, SqL.of hp⟩, _, rfl, _, rfl, p, zs, rfl, .inl (SqL.of hp), b, l, _, rfl, B', by omega, by omega, fun H1 d kp1 B1 d0 d1 => ?_⟩
      obtain ⟨j, rfl⟩ : ∃ j : Nat, d = j := ⟨d.toNat, by omega⟩
      have hj : j < zs.length := by omega
      have hp1 : H1 p = some (.lst zs) := kp1 _ _ (B.nb np) hp
      have ho1 : H1 o = some (.lst ys) := kp1 _ _ (B.nb no0) ho
      refine ⟨p, zs, _, j, zs[j], rfl, rfl, hp1, by omega, by omega, ?_, List.getElem?_eq_getElem hj, ?_⟩
      · exact (ixN_seq (n := zs.length) (i := (j : Int)) (j := j) (by unfold ixN; rw [if_pos (by omega), if_pos (by omega)]; rfl)).1
      · refine ⟨o, _, _, rfl, rfl, by rw [upd_ne npo.symm]; exact ho1, small1000 (by omega), ?_⟩
        refine ⟨ys ++ [zs[j]], zs.eraseIdx j, _, rfl, ((kp.trans kp1).put np).put no0, (B1.put (B.nb np) (B.nl np)).put (B.nb no0) (B.nl no0), ?_, upd_same, ?_, ?_⟩
        · rw [upd_ne npo, upd_same]
        · refine List.Perm.trans ?_ pm
          rw [List.append_assoc]
          exact List.Perm.append_left _ (erasePm zs j hj)
        · rw [List.length_append, hy]; rfl
    · rintro σ H' ⟨ys, zs, y, rfl, kp, B', hp, ho, pm, hy⟩
      have e0 : zs = [] := by
        have e := pm.length_eq
        rw [List.length_append] at e
        exact List.eq_nil_of_length_eq_zero (by omega)
      subst e0
      rw [List.append_nil] at pm
      exact ⟨_, rfl, q _ o ys kp B' no0 ho pm⟩
end

abbrev sSame : Stmt := topS 8
theorem scSame : FnScope ["_law_found", "_law_due", "_law_one", "_law_other"] ["_law_found", "_law_due"] (defScope sSame) := ⟨rfl, rfl, rfl, by decide +kernel, rfl, by decide +kernel, by decide +kernel⟩
structure SameT (mg : Str → Option Value) : Prop where
  isi : mg "isinstance" = none
  dict : mg "dict" = none
  list : mg "list" = none
  tuple : mg "tuple" = none
  bool : mg "bool" = none
  int : mg "int" = none
  str : mg "str" = none
  len : mg "len" = none
  all : mg "all" = none
  zip : mg "zip" = none
section
variable {P : Program} {w : World} {K : PySem.W.Frag} {mg : Str → Option Value} {base : Heap}
theorem ok_same0 {f : Addr} {fd : FuncData} (F : Fun K "_law_same" "_law_same" sSame f fd) (T : SameT mg) : FnOk P w K mg base CX0 (0 + 1) f fd ["_law_found", "_law_due"] (spSame (0)) := by
  refine F.ok scSame (fun vs H Q E h => ?_) (fun cdv A outer s H vs Q E hr h => ?_)
  · obtain ⟨x, y, rfl, _⟩ := h
    rfl
  · obtain ⟨x, y, rfl, he, q⟩ := h
    refine ⟨_, pss_cons (ps_if (PW.pt (pw_or (pt_cmpR op_isN (pv 1) pe_non (nomark _)) (pw_or1 (pt_cmpR op_isN (pv 0) pe_non (nomark _))))) (pss_one (ps_ret (pe_and (pe_cmpR op_isN (pv 0) pe_non (nomark _)) (pe_one (pe_cmpR op_isN (pv 1) pe_non (nomark _)))))) pss_nil)
      (pss_cons (ps_if (pt_val (pe_callB call_isi (by rfl) T.isi boot_isinstance (pa_cons (pv 1) (pa_cons (pe_bltn (v := .ty "dict") (by rfl) T.dict (by decide +kernel) rfl) pa_nil)))) pss_never pss_nil)
      (pss_cons (ps_if (pt_val (pe_callB call_isiT (by rfl) T.isi boot_isinstance (pa_cons (pv 1) (pa_cons (pe_tup (pa_cons (pe_bltn (v := .ty "list") (by rfl) T.list (by decide +kernel) rfl) (pa_cons (pe_bltn (v := .ty "tuple") (by rfl) T.tuple (by decide +kernel) rfl) pa_nil))) pa_nil)))) pss_never pss_nil)
      (pss_cons (ps_if (PW.pt (pw_or (pt_cmpR op_ne (pe_callB call_isi (by rfl) T.isi boot_isinstance (pa_cons (pv 0) (pa_cons (pe_bltn (v := .ty "bool") (by rfl) T.bool (by decide +kernel) rfl) pa_nil))) (pe_callB call_isi (by rfl) T.isi boot_isinstance (pa_cons (pv 1) (pa_cons (pe_bltn (v := .ty "bool") (by rfl) T.bool (by decide +kernel) rfl) pa_nil))) (nomark _))
          (pw_or1 (pt_cmpR op_ne (pe_callB call_isi (by rfl) T.isi boot_isinstance (pa_cons (pv 0) (pa_cons (pe_bltn (v := .ty "int") (by rfl) T.int (by decide +kernel) rfl) pa_nil))) (pe_callB call_isi (by rfl) T.isi boot_isinstance (pa_cons (pv 1) (pa_cons (pe_bltn (v := .ty "int") (by rfl) T.int (by decide +kernel) rfl) pa_nil))) (nomark _))))) pss_never pss_nil)
      (pss_one (ps_ret (pe_and (pe_cmpR op_eq (pe_callB call_isi (by rfl) T.isi boot_isinstance (pa_cons (pv 0) (pa_cons (pe_bltn (v := .ty "str") (by rfl) T.str (by decide +kernel) rfl) pa_nil))) (pe_callB call_isi (by rfl) T.isi boot_isinstance (pa_cons (pv 1) (pa_cons (pe_bltn (v := .ty "str") (by rfl) T.str (by decide +kernel) rfl) pa_nil))) (nomark _)) (pe_one (pe_cmpR op_eq (pv 0) (pv 1) (nomark _))))))))), ?_⟩
    rcases he with _ | ⟨_, bb⟩ | ⟨_, i⟩ | ⟨_, z⟩
    · refine ⟨_, rfl, rfl, _, rfl, iteT ⟨_, rfl, rfl, _, rfl, ifT rfl ⟨_, rfl, rfl, ?_⟩⟩⟩
      exact q _ (Same.refl _)
    · refine ⟨_, rfl, rfl, _, rfl, ifF (decide_eq_false (by intro e; cases e)) ⟨_, rfl, rfl, _, rfl, ifF (decide_eq_false (by intro e; cases e)) ?_⟩⟩
      refine ⟨_, rfl, _, _, _, _, false, rfl, .ty "dict", .base (.bl bb), kit_ty (by decide +kernel), _, rfl, iteF ?_⟩
      refine ⟨_, rfl, (by show 2 ≤ sizeLine; decide), fun t ht => ⟨_, t, _, _, [.type "list", .type "tuple"], false, rfl, upd_same, .cons (.ty _) (.cons (.ty _) .nil), .base (.bl bb), kit_list (by decide +kernel) (fun _ => by decide +kernel), _, rfl, iteF ?_⟩⟩
      refine ⟨_, rfl, _, _, _, _, true, rfl, .ty "bool", .base (.bl bb), kit_ty (by decide +kernel), _, rfl, _, _, _, _, true, rfl, .ty "bool", .base (.bl bb), kit_ty (by decide +kernel), rfl, _, rfl, ifF (by decide) ⟨_, rfl, _, _, _, _, true, rfl, .ty "int", .base (.bl bb), kit_ty (by decide +kernel), _, rfl, _, _, _, _, true, rfl, .ty "int", .base (.bl bb), kit_ty (by decide +kernel), rfl, _, rfl, ifF (by decide) ?_⟩⟩
      refine ⟨_, rfl, _, _, _, _, false, rfl, .ty "str", .base (.bl bb), kit_ty (by decide +kernel), _, rfl, _, _, _, _, false, rfl, .ty "str", .base (.bl bb), kit_ty (by decide +kernel), rfl, _, rfl, ifT (by decide) ⟨_, rfl, _, rfl, rfl, ?_⟩⟩
      rw [decide_eq_true rfl]
      exact q _ (same_upd ht)
    · refine ⟨_, rfl, rfl, _, rfl, ifF (decide_eq_false (by intro e; cases e)) ⟨_, rfl, rfl, _, rfl, ifF (decide_eq_false (by intro e; cases e)) ?_⟩⟩
      refine ⟨_, rfl, _, _, _, _, false, rfl, .ty "dict", .base (.int i), kit_ty (by decide +kernel), _, rfl, iteF ?_⟩
      refine ⟨_, rfl, (by show 2 ≤ sizeLine; decide), fun t ht => ⟨_, t, _, _, [.type "list", .type "tuple"], false, rfl, upd_same, .cons (.ty _) (.cons (.ty _) .nil), .base (.int i), kit_list (by decide +kernel) (fun _ => by decide +kernel), _, rfl, iteF ?_⟩⟩
      refine ⟨_, rfl, _, _, _, _, false, rfl, .ty "bool", .base (.int i), kit_ty (by decide +kernel), _, rfl, _, _, _, _, false, rfl, .ty "bool", .base (.int i), kit_ty (by decide +kernel), rfl, _, rfl, ifF (by decide) ⟨_, rfl, _, _, _, _, true, rfl, .ty "int", .base (.int i), kit_ty (by decide +kernel), _, rfl, _, _, _, _, true, rfl, .ty "int", .base (.int i), kit_ty (by decide +kernel), rfl, _, rfl, ifF (by decide) ?_⟩⟩
      refine ⟨_, rfl, _, _, _, _, false, rfl, .ty "str", .base (.int i), kit_ty (by decide +kernel), _, rfl, _, _, _, _, false, rfl, .ty "str", .base (.int i), kit_ty (by decide +kernel), rfl, _, rfl, ifT (by decide) ⟨_, rfl, _, rfl, rfl, ?_⟩⟩
      rw [decide_eq_true rfl]
      exact q _ (same_upd ht)
    · refine ⟨_, rfl, rfl, _, rfl, ifF (decide_eq_false (by intro e; cases e)) ⟨_, rfl, rfl, _, rfl, ifF (decide_eq_false (by intro e; cases e)) ?_⟩⟩
      refine ⟨_, rfl, _, _, _, _, false, rfl, .ty "dict", .base (.str z), kit_ty (by decide +kernel), _, rfl, iteF ?_⟩
      refine ⟨_, rfl, (by show 2 ≤ sizeLine; decide), fun t ht => ⟨_, t, _, _, [.type "list", .type "tuple"], false, rfl, upd_same, .cons (.ty _) (.cons (.ty _) .nil), .base (.str z), kit_list (by decide +kernel) (fun _ => by decide +kernel), _, rfl, iteF ?_⟩⟩
      refine ⟨_, rfl, _, _, _, _, false, rfl, .ty "bool", .base (.str z), kit_ty (by decide +kernel), _, rfl, _, _, _, _, false, rfl, .ty "bool", .base (.str z), kit_ty (by decide +kernel), rfl, _, rfl, ifF (by decide) ⟨_, rfl, _, _, _, _, false, rfl, .ty "int", .base (.str z), kit_ty (by decide +kernel), _, rfl, _, _, _, _, false, rfl, .ty "int", .base (.str z), kit_ty (by decide +kernel), rfl, _, rfl, ifF (by decide) ?_⟩⟩
      refine ⟨_, rfl, _, _, _, _, true, rfl, .ty "str", .base (.str z), kit_ty (by decide +kernel), _, rfl, _, _, _, _, true, rfl, .ty "str", .base (.str z), kit_ty (by decide +kernel), rfl, _, rfl, ifT (by decide) ⟨_, rfl, _, rfl, rfl, ?_⟩⟩
      rw [decide_eq_true rfl]
      exact q _ (same_upd ht)
theorem ok_sameS {f : Addr} {fd : FuncData} {n : Nat} (G : FnOk P w K mg base CX0 (n + 1) f fd ["_law_found", "_law_due"] (spSame n)) (gS : mg "_law_same" = some (.ref f)) (bS : Binds K fd ["_law_found", "_law_due"] []) (F : Fun K "_law_same" "_law_same" sSame f fd) (T : SameT mg) : FnOk P w K mg base CX0 (n + 1 + 1) f fd ["_law_found", "_law_due"] (spSame (n + 1)) := by
  refine F.ok scSame (fun vs H Q E h => ?_) (fun cdv A outer s H vs Q E hr h => ?_)
  · obtain ⟨x, y, rfl, _⟩ := h
    rfl
  · obtain ⟨x, y, rfl, he, q⟩ := h
    refine ⟨_, pss_cons (ps_if (PW.pt (pw_or (pt_cmpR op_isN (pv 1) pe_non (nomark _)) (pw_or1 (pt_cmpR op_isN (pv 0) pe_non (nomark _))))) (pss_one (ps_ret (pe_and (pe_cmpR op_isN (pv 0) pe_non (nomark _)) (pe_one (pe_cmpR op_isN (pv 1) pe_non (nomark _)))))) pss_nil)
      (pss_cons (ps_if (pt_val (pe_callB call_isi (by rfl) T.isi boot_isinstance (pa_cons (pv 1) (pa_cons (pe_bltn (v := .ty "dict") (by rfl) T.dict (by decide +kernel) rfl) pa_nil)))) pss_never pss_nil)
      (pss_cons (ps_if (pt_val (pe_callB call_isiT (by rfl) T.isi boot_isinstance (pa_cons (pv 1) (pa_cons (pe_tup (pa_cons (pe_bltn (v := .ty "list") (by rfl) T.list (by decide +kernel) rfl) (pa_cons (pe_bltn (v := .ty "tuple") (by rfl) T.tuple (by decide +kernel) rfl) pa_nil))) pa_nil)))) (pss_cons (ps_if (PW.pt (pw_or (pt_cmpR op_ne (pe_callB call_isi (by rfl) T.isi boot_isinstance (pa_cons (pv 0) (pa_cons (pe_bltn (v := .ty "list") (by rfl) T.list (by decide +kernel) rfl) pa_nil))) (pe_callB call_isi (by rfl) T.isi boot_isinstance (pa_cons (pv 1) (pa_cons (pe_bltn (v := .ty "list") (by rfl) T.list (by decide +kernel) rfl) pa_nil))) (nomark _)) (pw_or1 (pt_cmpR op_ne (pe_callB call_isi (by rfl) T.isi boot_isinstance (pa_cons (pv 0) (pa_cons (pe_bltn (v := .ty "tuple") (by rfl) T.tuple (by decide +kernel) rfl) pa_nil))) (pe_callB call_isi (by rfl) T.isi boot_isinstance (pa_cons (pv 1) (pa_cons (pe_bltn (v := .ty "tuple") (by rfl) T.tuple (by decide +kernel) rfl) pa_nil))) (nomark _))))) pss_never pss_nil)
        (pss_one (ps_ret (pe_and (pe_cmpR op_eq (pe_callB call_len_seq (by rfl) T.len PySem.boot_len (pa_cons (pv 0) pa_nil)) (pe_callB call_len_seq (by rfl) T.len PySem.boot_len (pa_cons (pv 1) pa_nil)) (nomark _))
          (pe_one (pe_callB (cr_all rfl) (by rfl) T.all boot_all (pa_cons (pe_lc (own := [("_law_one", 2), ("_law_other", 3)]) (g := gTup K 2 (gCons (gName 2) (gCons (gName 3) gNil))) (tt := tYes) rfl scSame.nd (RZ.pi_zipA (by rfl) T.zip (pa_cons (pv 0) (pa_cons (pv 1) pa_nil)))
            (blkOk_by (own := [("_law_one", 2), ("_law_other", 3)]) (N := ["_law_found", "_law_due", "_law_one", "_law_other"]) (sc := defScope sSame) (by decide +kernel))
            (fun _ _ _ _ _ => pg_tup rfl (pgs_cons (pg_name (i := 2) scSame.nd rfl (Or.inl rfl)) (pgs_cons (pg_name (i := 3) scSame.nd rfl (Or.inl rfl)) pgs_nil))) (fun _ _ _ _ _ => pts_nil)
            (fun _ _ _ _ _ => pe_call G hr (by rfl) gS F.kp bS .nil pass0 (pa_cons (pv 2) (pa_cons (pv 3) pa_nil)))) pa_nil))))))) pss_nil)
      (pss_cons (ps_if (PW.pt (pw_or (pt_cmpR op_ne (pe_callB call_isi (by rfl) T.isi boot_isinstance (pa_cons (pv 0) (pa_cons (pe_bltn (v := .ty "bool") (by rfl) T.bool (by decide +kernel) rfl) pa_nil))) (pe_callB call_isi (by rfl) T.isi boot_isinstance (pa_cons (pv 1) (pa_cons (pe_bltn (v := .ty "bool") (by rfl) T.bool (by decide +kernel) rfl) pa_nil))) (nomark _))
          (pw_or1 (pt_cmpR op_ne (pe_callB call_isi (by rfl) T.isi boot_isinstance (pa_cons (pv 0) (pa_cons (pe_bltn (v := .ty "int") (by rfl) T.int (by decide +kernel) rfl) pa_nil))) (pe_callB call_isi (by rfl) T.isi boot_isinstance (pa_cons (pv 1) (pa_cons (pe_bltn (v := .ty "int") (by rfl) T.int (by decide +kernel) rfl) pa_nil))) (nomark _))))) pss_never pss_nil)
      (pss_one (ps_ret (pe_and (pe_cmpR op_eq (pe_callB call_isi (by rfl) T.isi boot_isinstance (pa_cons (pv 0) (pa_cons (pe_bltn (v := .ty "str") (by rfl) T.str (by decide +kernel) rfl) pa_nil))) (pe_callB call_isi (by rfl) T.isi boot_isinstance (pa_cons (pv 1) (pa_cons (pe_bltn (v := .ty "str") (by rfl) T.str (by decide +kernel) rfl) pa_nil))) (nomark _)) (pe_one (pe_cmpR op_eq (pv 0) (pv 1) (nomark _))))))))), ?_⟩
    rcases he with _ | ⟨_, bb⟩ | ⟨_, i⟩ | ⟨_, z⟩ | ⟨hp, hq, hl, hz, hh⟩ | ⟨hp, hq, hl, hz, hh⟩
    · refine ⟨_, rfl, rfl, _, rfl, iteT ⟨_, rfl, rfl, _, rfl, ifT rfl ⟨_, rfl, rfl, ?_⟩⟩⟩
      exact q _ (Same.refl _)
    · refine ⟨_, rfl, rfl, _, rfl, ifF (decide_eq_false (by intro e; cases e)) ⟨_, rfl, rfl, _, rfl, ifF (decide_eq_false (by intro e; cases e)) ?_⟩⟩
      refine ⟨_, rfl, _, _, _, _, false, rfl, .ty "dict", .base (.bl bb), kit_ty (by decide +kernel), _, rfl, iteF ?_⟩
      refine ⟨_, rfl, (by show 2 ≤ sizeLine; decide), fun t ht => ⟨_, t, _, _, [.type "list", .type "tuple"], false, rfl, upd_same, .cons (.ty _) (.cons (.ty _) .nil), .base (.bl bb), kit_list (by decide +kernel) (fun _ => by decide +kernel), _, rfl, iteF ?_⟩⟩
      refine ⟨_, rfl, _, _, _, _, true, rfl, .ty "bool", .base (.bl bb), kit_ty (by decide +kernel), _, rfl, _, _, _, _, true, rfl, .ty "bool", .base (.bl bb), kit_ty (by decide +kernel), rfl, _, rfl, ifF (by decide) ⟨_, rfl, _, _, _, _, true, rfl, .ty "int", .base (.bl bb), kit_ty (by decide +kernel), _, rfl, _, _, _, _, true, rfl, .ty "int", .base (.bl bb), kit_ty (by decide +kernel), rfl, _, rfl, ifF (by decide) ?_⟩⟩
      refine ⟨_, rfl, _, _, _, _, false, rfl, .ty "str", .base (.bl bb), kit_ty (by decide +kernel), _, rfl, _, _, _, _, false, rfl, .ty "str", .base (.bl bb), kit_ty (by decide +kernel), rfl, _, rfl, ifT (by decide) ⟨_, rfl, _, rfl, rfl, ?_⟩⟩
      rw [decide_eq_true rfl]
      exact q _ (same_upd ht)
    · refine ⟨_, rfl, rfl, _, rfl, ifF (decide_eq_false (by intro e; cases e)) ⟨_, rfl, rfl, _, rfl, ifF (decide_eq_false (by intro e; cases e)) ?_⟩⟩
      refine ⟨_, rfl, _, _, _, _, false, rfl, .ty "dict", .base (.int i), kit_ty (by decide +kernel), _, rfl, iteF ?_⟩
      refine ⟨_, rfl, (by show 2 ≤ sizeLine; decide), fun t ht => ⟨_, t, _, _, [.type "list", .type "tuple"], false, rfl, upd_same, .cons (.ty _) (.cons (.ty _) .nil), .base (.int i), kit_list (by decide +kernel) (fun _ => by decide +kernel), _, rfl, iteF ?_⟩⟩
      refine ⟨_, rfl, _, _, _, _, false, rfl, .ty "bool", .base (.int i), kit_ty (by decide +kernel), _, rfl, _, _, _, _, false, rfl, .ty "bool", .base (.int i), kit_ty (by decide +kernel), rfl, _, rfl, ifF (by decide) ⟨_, rfl, _, _, _, _, true, rfl, .ty "int", .base (.int i), kit_ty (by decide +kernel), _, rfl, _, _, _, _, true, rfl, .ty "int", .base (.int i), kit_ty (by decide +kernel), rfl, _, rfl, ifF (by decide) ?_⟩⟩
      refine ⟨_, rfl, _, _, _, _, false, rfl, .ty "str", .base (.int i), kit_ty (by decide +kernel), _, rfl, _, _, _, _, false, rfl, .ty "str", .base (.int i), kit_ty (by decide +kernel), rfl, _, rfl, ifT (by decide) ⟨_, rfl, _, rfl, rfl, ?_⟩⟩
      rw [decide_eq_true rfl]
      exact q _ (same_upd ht)
    · refine ⟨_, rfl, rfl, _, rfl, ifF (decide_eq_false (by intro e; cases e)) ⟨_, rfl, rfl, _, rfl, ifF (decide_eq_false (by intro e; cases e)) ?_⟩⟩
      refine ⟨_, rfl, _, _, _, _, false, rfl, .ty "dict", .base (.str z), kit_ty (by decide +kernel), _, rfl, iteF ?_⟩
      refine ⟨_, rfl, (by show 2 ≤ sizeLine; decide), fun t ht => ⟨_, t, _, _, [.type "list", .type "tuple"], false, rfl, upd_same, .cons (.ty _) (.cons (.ty _) .nil), .base (.str z), kit_list (by decide +kernel) (fun _ => by decide +kernel), _, rfl, iteF ?_⟩⟩
      refine ⟨_, rfl, _, _, _, _, false, rfl, .ty "bool", .base (.str z), kit_ty (by decide +kernel), _, rfl, _, _, _, _, false, rfl, .ty "bool", .base (.str z), kit_ty (by decide +kernel), rfl, _, rfl, ifF (by decide) ⟨_, rfl, _, _, _, _, false, rfl, .ty "int", .base (.str z), kit_ty (by decide +kernel), _, rfl, _, _, _, _, false, rfl, .ty "int", .base (.str z), kit_ty (by decide +kernel), rfl, _, rfl, ifF (by decide) ?_⟩⟩
      refine ⟨_, rfl, _, _, _, _, true, rfl, .ty "str", .base (.str z), kit_ty (by decide +kernel), _, rfl, _, _, _, _, true, rfl, .ty "str", .base (.str z), kit_ty (by decide +kernel), rfl, _, rfl, ifT (by decide) ⟨_, rfl, _, rfl, rfl, ?_⟩⟩
      rw [decide_eq_true rfl]
      exact q _ (same_upd ht)
    · rename_i p' q' xs ys
      refine ⟨_, rfl, rfl, _, rfl, ifF (decide_eq_false (by intro e; cases e)) ⟨_, rfl, rfl, _, rfl, ifF (decide_eq_false (by intro e; cases e)) ?_⟩⟩
      refine ⟨_, rfl, _, _, _, _, false, rfl, .ty "dict", .base (.lst hq), kit_ty (by decide +kernel), _, rfl, iteF ?_⟩
      refine ⟨_, rfl, (by show 2 ≤ sizeLine; decide), fun t ht => ⟨_, t, _, _, [.type "list", .type "tuple"], true, rfl, upd_same, .cons (.ty _) (.cons (.ty _) .nil), .base (.lst (same_upd ht _ _ hq)), kit_list (by decide +kernel) (fun e => by cases e), _, rfl, iteT ?_⟩⟩
      have s1 : Same H (upd H t (.tup [.ty "list", .ty "tuple"])) := same_upd ht
      have hp1 := s1 _ _ hp
      have hq1 := s1 _ _ hq
      refine ⟨_, rfl, _, _, _, _, true, rfl, .ty "list", .base (.lst hp1), kit_ty (by decide +kernel), _, rfl, _, _, _, _, true, rfl, .ty "list", .base (.lst hq1), kit_ty (by decide +kernel), rfl, _, rfl, ifF (by decide) ⟨_, rfl, _, _, _, _, false, rfl, .ty "tuple", .base (.lst hp1), kit_ty (by decide +kernel), _, rfl, _, _, _, _, false, rfl, .ty "tuple", .base (.lst hq1), kit_ty (by decide +kernel), rfl, _, rfl, ifF (by decide) ?_⟩⟩
      refine ⟨_, rfl, p', xs, rfl, .inl (SqL.of hp1), _, rfl, q', ys, rfl, .inl (SqL.of hq1), rfl, _, rfl, ifT (decide_eq_true (by rw [hl])) ?_⟩
      refine ⟨_, rfl, _, rfl, p', q', xs, ys, rfl, .inl ⟨SqL.of hp1, SqL.of hq1, fun D hD => ?_⟩⟩
      have fD := s1.free hD
      refine lc_it (walk_zip (K := K) (a := p') (b := q') (xs := xs) (ys := ys) (n := xs.length) (by omega)) (fun i H' => Same H H' ∧ H' D = some (.lst ((List.replicate i true).map V.bl))) ⟨same_put s1 fD, upd_same⟩
        (fun i H' _ hv => ⟨SqL.of (hv.1 _ _ hp), SqL.of (hv.1 _ _ hq)⟩) ?_ ?_
      · rintro i v H' H2 hi ⟨sm, hDl⟩ ⟨t2, a1, a2, rfl, ht2, rfl, e1, e2⟩
        have s2 : Same H' (upd H' t2 (.tup [a1, a2])) := same_upd ht2
        refine ⟨t2, _, rfl, .inl (.inl upd_same), rfl, a1, [a2], rfl, a2, [], rfl, rfl, rfl, ?_⟩
        refine ⟨_, rfl, _, rfl, a1, a2, rfl, (hh i a1 a2 e1 e2).same (sm.trans s2), fun H3 s3 => ?_⟩
        refine ⟨_, s3 _ _ (s2 _ _ hDl), ?_, same_put (sm.trans (s2.trans s3)) fD, ?_⟩
        · rw [List.length_map, List.length_replicate]
          exact Nat.lt_of_lt_of_le hi (Nat.le_trans hz (by decide))
        · rw [upd_same, List.replicate_succ', List.map_append]
          rfl
      · rintro H' ⟨sm, hDl⟩
        refine ⟨D, List.replicate xs.length true, rfl, SqL.of hDl, ?_⟩
        have e : (List.replicate xs.length true).all id = true := by
          rw [List.all_eq_true]
          intro b hb
          exact (List.mem_replicate.mp hb).2
        rw [e]
        exact q _ sm
    · rename_i p' q' xs ys
      refine ⟨_, rfl, rfl, _, rfl, ifF (decide_eq_false (by intro e; cases e)) ⟨_, rfl, rfl, _, rfl, ifF (decide_eq_false (by intro e; cases e)) ?_⟩⟩
      refine ⟨_, rfl, _, _, _, _, false, rfl, .ty "dict", .base (.tup hq), kit_ty (by decide +kernel), _, rfl, iteF ?_⟩
      refine ⟨_, rfl, (by show 2 ≤ sizeLine; decide), fun t ht => ⟨_, t, _, _, [.type "list", .type "tuple"], true, rfl, upd_same, .cons (.ty _) (.cons (.ty _) .nil), .base (.tup (same_upd ht _ _ hq)), kit_tup, _, rfl, iteT ?_⟩⟩
      have s1 : Same H (upd H t (.tup [.ty "list", .ty "tuple"])) := same_upd ht
      have hp1 := s1 _ _ hp
      have hq1 := s1 _ _ hq
      refine ⟨_, rfl, _, _, _, _, false, rfl, .ty "list", .base (.tup hp1), kit_ty (by decide +kernel), _, rfl, _, _, _, _, false, rfl, .ty "list", .base (.tup hq1), kit_ty (by decide +kernel), rfl, _, rfl, ifF (by decide) ⟨_, rfl, _, _, _, _, true, rfl, .ty "tuple", .base (.tup hp1), kit_ty (by decide +kernel), _, rfl, _, _, _, _, true, rfl, .ty "tuple", .base (.tup hq1), kit_ty (by decide +kernel), rfl, _, rfl, ifF (by decide) ?_⟩⟩
      refine ⟨_, rfl, p', xs, rfl, .inr (.inl (.inl hp1)), _, rfl, q', ys, rfl, .inr (.inl (.inl hq1)), rfl, _, rfl, ifT (decide_eq_true (by rw [hl])) ?_⟩
      refine ⟨_, rfl, _, rfl, p', q', xs, ys, rfl, .inr ⟨.inl (.inl hp1), .inl (.inl hq1), fun D hD => ?_⟩⟩
      have fD := s1.free hD
      refine lc_it (zip_tuples (K := K) (a := p') (b := q') (xs := xs) (ys := ys) hl) (fun i H' => Same H H' ∧ H' D = some (.lst ((List.replicate i true).map V.bl))) ⟨same_put s1 fD, upd_same⟩
        (fun i H' _ hv => ⟨.inl (.inl (hv.1 _ _ hp)), .inl (.inl (hv.1 _ _ hq))⟩) ?_ ?_
      · rintro i v H' H2 hi ⟨sm, hDl⟩ ⟨t2, a1, a2, rfl, ht2, rfl, e1, e2⟩
        have s2 : Same H' (upd H' t2 (.tup [a1, a2])) := same_upd ht2
        refine ⟨t2, _, rfl, .inl (.inl upd_same), rfl, a1, [a2], rfl, a2, [], rfl, rfl, rfl, ?_⟩
        refine ⟨_, rfl, _, rfl, a1, a2, rfl, (hh i a1 a2 e1 e2).same (sm.trans s2), fun H3 s3 => ?_⟩
        refine ⟨_, s3 _ _ (s2 _ _ hDl), ?_, same_put (sm.trans (s2.trans s3)) fD, ?_⟩
        · rw [List.length_map, List.length_replicate]
          exact Nat.lt_of_lt_of_le hi (Nat.le_trans hz (by decide))
        · rw [upd_same, List.replicate_succ', List.map_append]
          rfl
      · rintro H' ⟨sm, hDl⟩
        refine ⟨D, List.replicate xs.length true, rfl, SqL.of hDl, ?_⟩
        have e : (List.replicate xs.length true).all id = true := by
          rw [List.all_eq_true]
          intro b hb
          exact (List.mem_replicate.mp hb).2
        rw [e]
        exact q _ sm
theorem ok_same {f : Addr} {fd : FuncData} (F : Fun K "_law_same" "_law_same" sSame f fd) (T : SameT mg) (gS : mg "_law_same" = some (.ref f)) (bS : Binds K fd ["_law_found", "_law_due"] []) : ∀ n : Nat, FnOk P w K mg base CX0 (n + 1) f fd ["_law_found", "_law_due"] (spSame n)
  | 0 => ok_same0 F T
  | n + 1 => ok_sameS (ok_same F T gS bS n) gS bS F T
end

abbrev sLets : Stmt := topS 9
theorem scLets : FnScope [] [] (defScope sLets) := ⟨rfl, rfl, rfl, by decide +kernel, rfl, by decide +kernel, by decide +kernel⟩
section
variable {P : Program} {w : World} {K : PySem.W.Frag} {mg : Str → Option Value} {base : Heap}
theorem ok_lets {f : Addr} {fd : FuncData} (F : Fun K "_law_letters" "_law_letters" sLets f fd) : FnOk P w K mg base CX0 1 f fd [] spLets := by
  refine F.ok scLets (fun vs H Q E h => ?_) (fun cdv A outer s H vs Q E hr h => ?_)
  · obtain ⟨rfl, _⟩ := h
    rfl
  · obtain ⟨rfl, q⟩ := h
    exact ⟨_, pss_one (ps_ret pe_str), q⟩
end


end T44

namespace T44
open PySem PySem.Spec PyProof.Rows L2 Tm
abbrev sTurn : Stmt := topS 1
abbrev sSumOf : Stmt := topS 2
abbrev sLSum : Stmt := topS 10
theorem scTurn : FnScope ["ones", "text"] ["ones", "text"] (defScope sTurn) := ⟨rfl, rfl, rfl, by decide +kernel, rfl, by decide +kernel, by decide +kernel⟩
theorem scSumOf : FnScope ["lists", "ones", "texts", "text"] ["lists"] (defScope sSumOf) := ⟨rfl, rfl, rfl, by decide +kernel, rfl, by decide +kernel, by decide +kernel⟩
theorem scLSum : FnScope ["_law_rows", "_law_whole", "_law_row", "_law_one"] ["_law_rows"] (defScope sLSum) := ⟨rfl, rfl, rfl, by decide +kernel, rfl, by decide +kernel, by decide +kernel⟩
section
variable {P : Program} {w : World} {K : PySem.W.Frag} {mg : Str → Option Value} {base : Heap}
theorem ok_turn {f : Addr} {fd : FuncData} (F : Fun K "turn" "turn" sTurn f fd) : FnOk P w K mg base CX0 1 f fd ["ones", "text"] spTurn := by
  refine F.ok scTurn (fun vs H Q E h => ?_) (fun cdv A outer s H vs Q E hr h => ?_)
  · obtain ⟨d, l, z, rfl, _⟩ := h
    rfl
  · obtain ⟨d, l, z, rfl, hd, few, q⟩ := h
    refine ⟨_, pss_one (ps_if (pt_cmp (pc_din (hu_of hr) (pv 1) (pv 0))) (pss_one (ps_ddel (pv 0) (pv 1))) (pss_one (ps_dput (hu_of hr) (pv 0) (pv 1) pe_bl rfl))), ?_⟩
    refine ⟨_, rfl, _, rfl, d, _, rfl, DGet.k (k := Sum.inr z) hd, _, rfl, ?_⟩
    have size : (onesK l).length ≤ 1000 := by unfold onesK; rw [List.length_map]; exact few
    rw [ones_val]
    by_cases h : z ∈ l
    · rw [if_pos h]
      refine iteT ⟨_, rfl, _, rfl, d, onesK l, Sum.inr z, rfl, hd, rfl, by rw [ones_val, if_pos h]; rfl, ?_⟩
      rw [ones_drop]
      unfold turnL at q
      rw [if_pos h] at q
      exact q
    · rw [if_neg h]
      refine iteF ⟨_, rfl, _, rfl, d, _, rfl, DPut.k (k := Sum.inr z) hd (small1000 size), ?_⟩
      rw [ones_put h]
      unfold turnL at q
      rw [if_neg h] at q
      exact q
theorem ok_sumL {f fT : Addr} {fd fdT : FuncData} (F : Fun K "sum_of" "sum_of" sSumOf f fd) (FT : Fun K "turn" "turn" sTurn fT fdT) (bT : Binds K fdT ["ones", "text"] []) (gT : mg "turn" = some (.ref fT)) (ms : mg "sorted" = none) (mset : mg "set" = none) :
    FnOk P w K mg base CX0 2 f fd ["lists"] (spSumL K) := by
  have GT : FnOk P w K mg base CX0 1 fT fdT ["ones", "text"] spTurn := ok_turn FT
  refine F.ok scSumOf (fun vs H Q E h => ?_) (fun cdv A outer s H vs Q E hr h => ?_)
  · obtain ⟨p, ps, rs, U, rfl, _⟩ := h
    rfl
  · obtain ⟨p, ps, rs, U, rfl, hp, rows, ⟨few, many, inside⟩, q⟩ := h
    refine ⟨_, pss_cons (ps_set (i := 1) scSumOf.nd rfl (.inl rfl) pe_dnewK)
      (pss_cons (ps_for PassesOwn.never rfl (pi_list (pv 0)) (pg_name (i := 2) scSumOf.nd rfl (.inl rfl))
        (pss_one (ps_for PassesOwn.never rfl (pi_list (pe_callB (call_sortedTexts rfl) (by rfl) ms boot_sorted (pa_cons (pe_callTy (call_setTexts rfl) (by rfl) mset boot_set (pa_cons (pv 2) pa_nil)) pa_nil))) (pg_name (i := 3) scSumOf.nd rfl (.inl rfl))
          (pss_one (ps_expr (pe_call GT hr (by rfl) gT FT.kp bT .nil pass0 (pa_cons (pv 1) (pa_cons (pv 3) pa_nil))))))))
      (pss_one (ps_ret (pe_callB (call_sortedD rfl) (by rfl) ms boot_sorted (pa_cons (pv 1) pa_nil))))), ?_⟩
    intro d nd
    refine ⟨_, rfl, p, rfl, ⟨_, (same_upd nd).seq hp⟩, ?_⟩
    have lenp : (ps.map V.ref).length = rs.length := by rw [List.length_map, rows.1]
    have bound : ∀ {i : Nat} {l : List Str}, l.Nodup → (∀ z, z ∈ l ↔ cnt z (rs.take i) % 2 = 1) → l.length ≤ 60 := fun {i l} hnd hl => by
      refine Nat.le_trans (nodup_len l U hnd fun z hz => ?_) few
      have odd := (hl z).mp hz
      have some_ : 0 < cnt z (rs.take i) := by omega
      obtain ⟨r, hr, hzr⟩ := List.countP_pos_iff.mp some_
      exact (inside r (List.mem_of_mem_take hr)).2 z (of_decide_eq_true hzr)
    refine for_it (walk_list (xs := ps.map V.ref)) (fun i σ H' => ∃ (y2 y3 : Option V) (l : List Str), σ = [some (.ref p), some (.ref d), y2, y3] ∧ Same H H' ∧ H' d = some (.dK (onesK l)) ∧ l.Nodup ∧ ∀ z, z ∈ l ↔ cnt z (rs.take i) % 2 = 1)
      ⟨none, none, [], rfl, same_upd nd, upd_same, .nil, fun z => ⟨fun h => absurd h List.not_mem_nil, fun h => by cases h⟩⟩ (fun i σ H' _ ⟨_, _, _, _, s1, _⟩ => (s1).seq hp) ?_ ?_
    · rintro i v σ H1 H2 hi ⟨y2, y3, l, rfl, s1, hd, hnd, hl⟩ ⟨rfl, hv⟩
      rw [lenp] at hi
      have hip : i < ps.length := by rw [rows.1]; exact hi
      rw [List.getElem?_map, List.getElem?_eq_getElem hip] at hv
      have ev : v = .ref ps[i] := (Option.some.inj hv).symm
      subst ev
      have stands := (rows.same s1).2 i ps[i] rs[i] (List.getElem?_eq_getElem hip) (List.getElem?_eq_getElem hi)
      have rin := inside rs[i] (List.getElem_mem hi)
      have l60 := bound hnd hl
      refine ⟨_, rfl, ps[i], rs[i], rfl, stands, rin.1, fun a na => ⟨a, _, rfl, upd_same, Nat.le_trans (members_len _) rin.1, fun up o perm srt no => ?_⟩⟩
      have upn : up.Nodup := perm.nodup_iff.mpr (members_nodup _)
      have upm : ∀ z, z ∈ up ↔ z ∈ rs[i] := fun z => perm.mem_iff.trans members_mem
      have upl : up.length ≤ 1000 := by rw [perm.length_eq]; exact Nat.le_trans (members_len _) rin.1
      have sA : Same H2 (upd (upd H2 a (SetSO w a (members rs[i]))) o (.lst (up.map V.str))) := (same_upd na).trans (same_upd no)
      have ho : (upd (upd H2 a (SetSO w a (members rs[i]))) o (.lst (up.map V.str))) o = some (.lst (up.map V.str)) := upd_same
      have ndo : d ≠ o := fun e => by rw [← e, (same_upd na) _ _ hd] at no; cases no
      have fo : H o = none := s1.free ((same_upd na).free no)
      have hd2 := sA _ _ hd
      have s2 := s1.trans sA
      have lenu : (up.map V.str).length = up.length := List.length_map ..
      have part60 : ∀ j, ((up.take j).foldl turnL l).length ≤ 1000 := fun j => by
        have h1 := nodup_len _ (U ++ up) (turns_nodup (up.take j) l hnd) fun z hz => by
          rcases (turns_mem (up.take j) l z (upn.sublist (List.take_sublist _ _))).mp hz with h | h
          · refine List.mem_append_left _ ?_
            have odd := (hl z).mp h.1
            have some_ : 0 < cnt z (rs.take i) := by omega
            obtain ⟨r, hr, hzr⟩ := List.countP_pos_iff.mp some_
            exact (inside r (List.mem_of_mem_take hr)).2 z (of_decide_eq_true hzr)
          · exact List.mem_append_right _ (List.mem_of_mem_take h.2)
        have h2 : up.length ≤ 60 := Nat.le_trans (nodup_len up U upn fun z hz => rin.2 z ((upm z).mp hz)) few
        rw [List.length_append] at h1
        omega
      refine ⟨o, rfl, ⟨_, SqL.of ho⟩, ?_⟩
      refine for_it (walk_list (xs := up.map V.str)) (fun j σ H' => ∃ (y3 : Option V), σ = [some (.ref p), some (.ref d), some (.ref ps[i]), y3] ∧ Same H H' ∧ H' o = some (.lst (up.map V.str)) ∧ H' d = some (.dK (onesK ((up.take j).foldl turnL l))))
        ⟨_, rfl, s2, ho, hd2⟩ (fun j σ H' _ ⟨_, _, _, h, _⟩ => SqL.of h) ?_ ?_
      · rintro j v σ H4 H5 hj ⟨y3, rfl, s4, ho4, hd4⟩ ⟨rfl, hv⟩
        rw [lenu] at hj
        rw [List.getElem?_map, List.getElem?_eq_getElem hj] at hv
        have ev : v = .str up[j] := (Option.some.inj hv).symm
        subst ev
        refine ⟨_, rfl, _, rfl, d, _, up[j], rfl, hd4, part60 j, _, rfl, same_put s4 nd, by rw [upd_ne ndo.symm]; exact ho4, ?_⟩
        rw [upd_same, List.take_succ_eq_append_getElem hj, List.foldl_append]
        rfl
      · rintro σ H4 ⟨y3, rfl, s4, ho4, hd4⟩
        rw [lenu, List.take_length] at hd4
        refine ⟨_, _, up.foldl turnL l, rfl, s4, hd4, turns_nodup up l hnd, fun z => ?_⟩
        rw [turns_mem up l z upn, List.take_succ_eq_append_getElem hi, cnt_snoc, hl z, upm z]
        by_cases hz : z ∈ rs[i]
        · simp only [hz, not_true_eq_false, and_false, and_true, false_or, if_pos]
          omega
        · simp only [hz, not_false_eq_true, and_true, and_false, or_false, if_neg]
          omega
    · rintro σ H1 ⟨y2, y3, l, rfl, s1, hd, hnd, hl⟩
      have l60 := bound hnd hl
      rw [lenp, List.take_length] at hl
      have keys : (onesK l).map (·.1) = l.map Sum.inr := by unfold onesK; rw [List.map_map]; rfl
      refine ⟨_, rfl, d, _, l, rfl, .inl hd, keys, by omega, fun ys o perm srt no => ?_⟩
      exact q _ o ys (s1.trans (same_upd no)) (s1.free no) upd_same ⟨srt, perm.nodup_iff.mpr hnd, fun z => perm.mem_iff.trans (hl z)⟩
theorem ok_sumT {f fT : Addr} {fd fdT : FuncData} (F : Fun K "sum_of" "sum_of" sSumOf f fd) (FT : Fun K "turn" "turn" sTurn fT fdT) (bT : Binds K fdT ["ones", "text"] []) (gT : mg "turn" = some (.ref fT)) (ms : mg "sorted" = none) (mset : mg "set" = none) :
    FnOk P w K mg base CX0 2 f fd ["lists"] (spSumT K) := by
  have GT : FnOk P w K mg base CX0 1 fT fdT ["ones", "text"] spTurn := ok_turn FT
  refine F.ok scSumOf (fun vs H Q E h => ?_) (fun cdv A outer s H vs Q E hr h => ?_)
  · obtain ⟨p, ps, rs, U, rfl, _⟩ := h
    rfl
  · obtain ⟨p, ps, rs, U, rfl, hp, rows, ⟨few, many, inside⟩, q⟩ := h
    refine ⟨_, pss_cons (ps_set (i := 1) scSumOf.nd rfl (.inl rfl) pe_dnewK)
      (pss_cons (ps_for PassesOwn.never rfl (pi_tup (pv 0)) (pg_name (i := 2) scSumOf.nd rfl (.inl rfl))
        (pss_one (ps_for PassesOwn.never rfl (pi_list (pe_callB (call_sortedTexts rfl) (by rfl) ms boot_sorted (pa_cons (pe_callTy (call_setTexts rfl) (by rfl) mset boot_set (pa_cons (pv 2) pa_nil)) pa_nil))) (pg_name (i := 3) scSumOf.nd rfl (.inl rfl))
          (pss_one (ps_expr (pe_call GT hr (by rfl) gT FT.kp bT .nil pass0 (pa_cons (pv 1) (pa_cons (pv 3) pa_nil))))))))
      (pss_one (ps_ret (pe_callB (call_sortedD rfl) (by rfl) ms boot_sorted (pa_cons (pv 1) pa_nil))))), ?_⟩
    intro d nd
    refine ⟨_, rfl, p, rfl, ⟨_, same_tup (same_upd nd) hp⟩, ?_⟩
    have lenp : (ps.map V.ref).length = rs.length := by rw [List.length_map, rows.1]
    have bound : ∀ {i : Nat} {l : List Str}, l.Nodup → (∀ z, z ∈ l ↔ cnt z (rs.take i) % 2 = 1) → l.length ≤ 60 := fun {i l} hnd hl => by
      refine Nat.le_trans (nodup_len l U hnd fun z hz => ?_) few
      have odd := (hl z).mp hz
      have some_ : 0 < cnt z (rs.take i) := by omega
      obtain ⟨r, hr, hzr⟩ := List.countP_pos_iff.mp some_
      exact (inside r (List.mem_of_mem_take hr)).2 z (of_decide_eq_true hzr)
    refine for_it (walk_tup (xs := ps.map V.ref)) (fun i σ H' => ∃ (y2 y3 : Option V) (l : List Str), σ = [some (.ref p), some (.ref d), y2, y3] ∧ Same H H' ∧ H' d = some (.dK (onesK l)) ∧ l.Nodup ∧ ∀ z, z ∈ l ↔ cnt z (rs.take i) % 2 = 1)
      ⟨none, none, [], rfl, same_upd nd, upd_same, .nil, fun z => ⟨fun h => absurd h List.not_mem_nil, fun h => by cases h⟩⟩ (fun i σ H' _ ⟨_, _, _, _, s1, _⟩ => same_tup (s1) hp) ?_ ?_
    · rintro i v σ H1 H2 hi ⟨y2, y3, l, rfl, s1, hd, hnd, hl⟩ ⟨rfl, hv⟩
      rw [lenp] at hi
      have hip : i < ps.length := by rw [rows.1]; exact hi
      rw [List.getElem?_map, List.getElem?_eq_getElem hip] at hv
      have ev : v = .ref ps[i] := (Option.some.inj hv).symm
      subst ev
      have stands := (rows.same s1).2 i ps[i] rs[i] (List.getElem?_eq_getElem hip) (List.getElem?_eq_getElem hi)
      have rin := inside rs[i] (List.getElem_mem hi)
      have l60 := bound hnd hl
      refine ⟨_, rfl, ps[i], rs[i], rfl, stands, rin.1, fun a na => ⟨a, _, rfl, upd_same, Nat.le_trans (members_len _) rin.1, fun up o perm srt no => ?_⟩⟩
      have upn : up.Nodup := perm.nodup_iff.mpr (members_nodup _)
      have upm : ∀ z, z ∈ up ↔ z ∈ rs[i] := fun z => perm.mem_iff.trans members_mem
      have upl : up.length ≤ 1000 := by rw [perm.length_eq]; exact Nat.le_trans (members_len _) rin.1
      have sA : Same H2 (upd (upd H2 a (SetSO w a (members rs[i]))) o (.lst (up.map V.str))) := (same_upd na).trans (same_upd no)
      have ho : (upd (upd H2 a (SetSO w a (members rs[i]))) o (.lst (up.map V.str))) o = some (.lst (up.map V.str)) := upd_same
      have ndo : d ≠ o := fun e => by rw [← e, (same_upd na) _ _ hd] at no; cases no
      have fo : H o = none := s1.free ((same_upd na).free no)
      have hd2 := sA _ _ hd
      have s2 := s1.trans sA
      have lenu : (up.map V.str).length = up.length := List.length_map ..
      have part60 : ∀ j, ((up.take j).foldl turnL l).length ≤ 1000 := fun j => by
        have h1 := nodup_len _ (U ++ up) (turns_nodup (up.take j) l hnd) fun z hz => by
          rcases (turns_mem (up.take j) l z (upn.sublist (List.take_sublist _ _))).mp hz with h | h
          · refine List.mem_append_left _ ?_
            have odd := (hl z).mp h.1
            have some_ : 0 < cnt z (rs.take i) := by omega
            obtain ⟨r, hr, hzr⟩ := List.countP_pos_iff.mp some_
            exact (inside r (List.mem_of_mem_take hr)).2 z (of_decide_eq_true hzr)
          · exact List.mem_append_right _ (List.mem_of_mem_take h.2)
        have h2 : up.length ≤ 60 := Nat.le_trans (nodup_len up U upn fun z hz => rin.2 z ((upm z).mp hz)) few
        rw [List.length_append] at h1
        omega
      refine ⟨o, rfl, ⟨_, SqL.of ho⟩, ?_⟩
      refine for_it (walk_list (xs := up.map V.str)) (fun j σ H' => ∃ (y3 : Option V), σ = [some (.ref p), some (.ref d), some (.ref ps[i]), y3] ∧ Same H H' ∧ H' o = some (.lst (up.map V.str)) ∧ H' d = some (.dK (onesK ((up.take j).foldl turnL l))))
        ⟨_, rfl, s2, ho, hd2⟩ (fun j σ H' _ ⟨_, _, _, h, _⟩ => SqL.of h) ?_ ?_
      · rintro j v σ H4 H5 hj ⟨y3, rfl, s4, ho4, hd4⟩ ⟨rfl, hv⟩
        rw [lenu] at hj
        rw [List.getElem?_map, List.getElem?_eq_getElem hj] at hv
        have ev : v = .str up[j] := (Option.some.inj hv).symm
        subst ev
        refine ⟨_, rfl, _, rfl, d, _, up[j], rfl, hd4, part60 j, _, rfl, same_put s4 nd, by rw [upd_ne ndo.symm]; exact ho4, ?_⟩
        rw [upd_same, List.take_succ_eq_append_getElem hj, List.foldl_append]
        rfl
      · rintro σ H4 ⟨y3, rfl, s4, ho4, hd4⟩
        rw [lenu, List.take_length] at hd4
        refine ⟨_, _, up.foldl turnL l, rfl, s4, hd4, turns_nodup up l hnd, fun z => ?_⟩
        rw [turns_mem up l z upn, List.take_succ_eq_append_getElem hi, cnt_snoc, hl z, upm z]
        by_cases hz : z ∈ rs[i]
        · simp only [hz, not_true_eq_false, and_false, and_true, false_or, if_pos]
          omega
        · simp only [hz, not_false_eq_true, and_true, and_false, or_false, if_neg]
          omega
    · rintro σ H1 ⟨y2, y3, l, rfl, s1, hd, hnd, hl⟩
      have l60 := bound hnd hl
      rw [lenp, List.take_length] at hl
      have keys : (onesK l).map (·.1) = l.map Sum.inr := by unfold onesK; rw [List.map_map]; rfl
      refine ⟨_, rfl, d, _, l, rfl, .inl hd, keys, by omega, fun ys o perm srt no => ?_⟩
      exact q _ o ys (s1.trans (same_upd no)) (s1.free no) upd_same ⟨srt, perm.nodup_iff.mpr hnd, fun z => perm.mem_iff.trans (hl z)⟩
end


end T44

namespace T44
open PySem PySem.Spec PyProof.Rows L2 Tm
section
variable {P : Program} {w : World} {K : PySem.W.Frag} {mg : Str → Option Value} {base : Heap}
theorem ok_lsum {f : Addr} {fd : FuncData} (F : Fun K "_law_sum" "_law_sum" sLSum f fd) (ms : mg "sorted" = none) (mset : mg "set" = none) (ml : mg "list" = none) : FnOk P w K mg base CX0 1 f fd ["_law_rows"] (spLSum K) := by
  refine F.ok scLSum (fun vs H Q E h => ?_) (fun cdv A outer s H vs Q E hr h => ?_)
  · obtain ⟨p, ps, rs, rfl, _⟩ := h
    rfl
  · obtain ⟨p, ps, rs, rfl, hp, rows, many, nd, q⟩ := h
    refine ⟨_, pss_cons (ps_set (i := 1) scLSum.nd rfl (.inr rfl) (pe_lst pa_nil))
      (pss_cons (ps_for PassesOwn.never rfl (pi_list (pv 0)) (pg_name (i := 2) scLSum.nd rfl (.inl rfl))
        (pss_one (ps_set (i := 1) scLSum.nd rfl (.inr rfl) (pe_op op_cat (pv 1) (pe_callTy call_list_of (by rfl) ml boot_list (pa_cons (pv 2) pa_nil))))))
      (pss_one (ps_ret (pe_lc (own := [("_law_one", 3)]) (g := gName 3) rfl scLSum.nd (pi_list (pe_callB (call_sortedTexts rfl) (by rfl) ms boot_sorted (pa_cons (pe_callTy (call_setTexts rfl) (by rfl) mset boot_set (pa_cons (pv 1) pa_nil)) pa_nil)))
        (blkOk_by (own := [("_law_one", 3)]) (N := ["_law_rows", "_law_whole", "_law_row", "_law_one"]) (sc := defScope sLSum) (by decide +kernel)) (fun _ _ _ _ _ => pg_name (i := 3) scLSum.nd rfl (Or.inl rfl))
        (fun _ _ _ _ _ => pts_one (pt_cmpR op_eq (pe_op op_mod (show PE _ _ (tBM K "list" (rCountS K) (tVar 1) (tCons (tVar 3) tNil)) from pe_bm PySem.F.plainAttrs_list PySem.F.slot_list_count PySem.F.type_list_count mt_countS (pv 1) (pa_cons (pv 3) pa_nil)) pe_int) pe_int (nomark _))) (fun _ _ _ _ _ => pv 3))))), ?_⟩
    refine ⟨Nat.zero_le _, fun o no => ?_⟩
    have lenp : (ps.map V.ref).length = rs.length := by rw [List.length_map, rows.1]
    have flat_take : ∀ i, (rs.take i).flatten.length ≤ rs.flatten.length := fun i => by
      have e : rs.flatten = (rs.take i).flatten ++ (rs.drop i).flatten := by rw [← List.flatten_append, List.take_append_drop]
      rw [e, List.length_append]; omega
    refine ⟨_, rfl, p, rfl, ⟨_, (same_upd no).seq hp⟩, ?_⟩
    refine for_it (walk_list (xs := ps.map V.ref)) (fun i σ H' => ∃ (o' : Addr) (y2 y3 : Option V), σ = [some (.ref p), some (.ref o'), y2, y3] ∧ Same H H' ∧ H o' = none ∧ H' o' = some (.lst (((rs.take i).flatten).map V.str)))
      ⟨o, none, none, rfl, same_upd no, no, upd_same⟩ (fun i σ H' _ ⟨_, _, _, _, s1, _⟩ => s1.seq hp) ?_ ?_
    · rintro i v σ H1 H2 hi ⟨o', y2, y3, rfl, s1, fo, ho⟩ ⟨rfl, hv⟩
      rw [lenp] at hi
      have hip : i < ps.length := by rw [rows.1]; exact hi
      rw [List.getElem?_map, List.getElem?_eq_getElem hip] at hv
      have ev : v = .ref ps[i] := (Option.some.inj hv).symm
      subst ev
      have stands := (rows.same s1).2 i ps[i] rs[i] (List.getElem?_eq_getElem hip) (List.getElem?_eq_getElem hi)
      refine ⟨_, rfl, _, rfl, ps[i], _, rfl, stands, fun c nc => ?_⟩
      have e1 := flat_take (i + 1)
      rw [List.take_succ_eq_append_getElem hi, List.flatten_append, List.length_append] at e1
      have e2 : ([rs[i]] : List (List Str)).flatten = rs[i] := by simp
      rw [e2] at e1
      refine ⟨o', c, _, _, rfl, rfl, (same_upd nc) _ _ ho, upd_same, ?_, fun t nt => ?_⟩
      · rw [List.length_map, List.length_map]
        exact Nat.le_of_lt (small1000 (by omega))
      · refine ⟨t, _, _, rfl, (s1.trans (same_upd nc)).trans (same_upd nt), s1.free ((same_upd nc).free nt), ?_⟩
        rw [upd_same, List.take_succ_eq_append_getElem hi, List.flatten_append, e2, List.map_append]
    · rintro σ H1 ⟨o', y2, y3, rfl, s1, fo, ho⟩
      rw [lenp, List.take_length] at ho
      refine ⟨_, rfl, o', rs.flatten, rfl, .inl (SqL.of ho), many, fun a na => ⟨a, _, rfl, upd_same, Nat.le_trans (members_len _) many, fun up c perm srt nc => ?_⟩⟩
      have upn : up.Nodup := perm.nodup_iff.mpr (members_nodup _)
      have upm : ∀ z, z ∈ up ↔ z ∈ rs.flatten := fun z => perm.mem_iff.trans members_mem
      have upl : up.length ≤ 1000 := by rw [perm.length_eq]; exact Nat.le_trans (members_len _) many
      have sA : Same H1 (upd (upd H1 a (SetSO w a (members rs.flatten))) c (.lst (up.map V.str))) := (same_upd na).trans (same_upd nc)
      have hc : (upd (upd H1 a (SetSO w a (members rs.flatten))) c (.lst (up.map V.str))) c = some (.lst (up.map V.str)) := upd_same
      have ho2 := sA _ _ ho
      refine ⟨c, rfl, ⟨_, SqL.of hc⟩, fun D nD => ?_⟩
      have fD : H D = none := (s1.trans sA).free nD
      refine lc_list (K := K) (a := c) (xs := up.map V.str) (fun i H' => Same (upd (upd H1 a (SetSO w a (members rs.flatten))) c (.lst (up.map V.str))) H' ∧ H' D = some (.lst (((up.take i).filter fun z => decide (rs.flatten.count z % 2 = 1)).map V.str))) ⟨same_upd nD, upd_same⟩ (fun i H' _ hv => SqL.of (hv.1 _ _ hc)) ?_ ?_
      · rintro i v H3 hv ⟨s3, hD⟩
        rw [List.getElem?_map] at hv
        cases ex : up[i]? with
        | none => rw [ex] at hv; cases hv
        | some z =>
          rw [ex] at hv
          have ev : v = .str z := (Option.some.inj hv).symm
          subst ev
          have hi : i < up.length := (List.getElem?_eq_some_iff.mp ex).1
          refine ⟨rfl, ?_⟩
          refine ⟨_, rfl, .inl ⟨rfl, _, SqL.of (s3 _ _ ho2)⟩, _, rfl, o', rs.flatten, z, rfl, rfl, SqL.of (s3 _ _ ho2), _, _, rfl, rfl, (by dsimp only; decide), rfl, _, rfl, ?_⟩
          have et : up.take (i + 1) = up.take i ++ [z] := by rw [List.take_succ, ex]; rfl
          have ec : decide (V.int (((rs.flatten.count z : Nat) : Int) % 2) = V.int 1) = decide (rs.flatten.count z % 2 = 1) := by
            apply decide_eq_decide.mpr
            constructor
            · intro e
              have e2 := V.int.inj e
              omega
            · intro e
              exact congrArg V.int (by omega)
          rw [ec]
          by_cases hz : rs.flatten.count z % 2 = 1
          · rw [decide_eq_true hz]
            refine iteT ⟨_, rfl, _, hD, ?_, same_put s3 nD, ?_⟩
            · rw [List.length_map]
              refine Nat.lt_of_le_of_lt (List.length_filter_le _ _) ?_
              rw [List.length_take]
              exact small1000 (by omega)
            · rw [upd_same, et, List.filter_append, List.map_append]
              simp [hz]
          · rw [decide_eq_false hz]
            refine iteF ⟨s3, ?_⟩
            rw [hD, et, List.filter_append, List.map_append]
            simp [hz]
      · rintro H3 ⟨s3, hD⟩
        rw [List.length_map, List.take_length] at hD
        refine q H3 D _ ((s1.trans sA).trans s3) fD hD ⟨?_, upn.filter _, fun z => ?_⟩
        · exact sorted_filter srt _
        · rw [List.mem_filter, upm z]
          have fc := flat_cnt z rs nd
          rw [← fc]
          constructor
          · exact fun h => of_decide_eq_true h.2
          · intro h
            refine ⟨List.count_pos_iff.mp (by omega), decide_eq_true h⟩
end


end T44

namespace T44
open PySem PySem.Spec PyProof.Rows L2 Tm
def rJoin (K : PySem.W.Frag) (x : V) (xs : List V) (H : Hp) (Q : VK) : Prop :=
  ∃ a p, ∃ ys : List Str, x = .str a ∧ xs = [.ref p] ∧ (SqL K H p (ys.map V.str) ∨ SqT K H p (ys.map V.str)) ∧ (ys.map (·.length)).sum + ys.length * a.length ≤ 16777216 ∧ Q (.str (Txt.join a ys)) H
theorem pe_joinK {X : Cx} {K : PySem.W.Frag} {sep row : Expr} {to te : TE} {q q' : Pos} (hK : X.K = K) (h1 : PE X sep to) (h2 : PE X row te)
    (hs : starEach [row] X.env = [(false, eval row X.env)] := by rfl)
    (hb : attributeBase sep "join" X.env (eval sep X.env) = eval sep X.env := by rfl)
    (hl : (q.endLine == q'.line) = true := by rfl) :
    PE X (.Call (.Attribute sep "join" q) [row] [] q') (tM1 (rJoin K) to te) := by
  subst hK
  exact pe_join h1 h2 hs hb hl
theorem alpha_small : ∀ c ∈ alpha, c < 1114112 := by decide
theorem strOk_alpha (cs : List Nat) (h : ∀ c ∈ cs, c ∈ alpha) : PyData.strOk (txt cs) = true := by
  unfold PyData.strOk txt
  simp only [List.all_toArray, List.all_eq_true]
  intro x hx
  exact decide_eq_true (alpha_small x (h x hx))
theorem perm_txts {ys : List V} {cs : List Str} (h : ys.Perm (cs.map V.str)) : ∃ ds : List Str, ys = ds.map V.str ∧ ds.Perm cs := by
  let f : V → Str := fun v => match v with
    | .str z => z
    | _ => txt []
  have back : ∀ y ∈ ys, (V.str ∘ f) y = id y := by
    intro y hy
    obtain ⟨c, _, rfl⟩ := List.mem_map.mp (h.mem_iff.mp hy)
    rfl
  refine ⟨ys.map f, ?_, ?_⟩
  · rw [List.map_map, List.map_congr_left back, List.map_id]
  · have h2 := h.map f
    rw [List.map_map, show f ∘ V.str = id from rfl, List.map_id] at h2
    exact h2
theorem flat_le {k : Nat} : ∀ ms : List (List Str), (∀ m ∈ ms, m.length ≤ k) → ms.flatten.length ≤ ms.length * k
  | [], _ => by simp
  | m :: ms, h => by
    have ih := flat_le ms fun x hx => h x (List.mem_cons_of_mem _ hx)
    have h1 := h m List.mem_cons_self
    rw [List.flatten_cons, List.length_append, List.length_cons, Nat.succ_mul]
    omega
/-- rows that were made of the rows one by one -/
structure Made (H : Hp) (qs : List Addr) (C : Addr) (ms rs : List (List Str)) : Prop where
  rows : RowsL H qs ms
  apart : ∀ q ∈ qs, q ≠ C
  mem : ∀ (i : Nat) (r m : List Str), rs[i]? = some r → ms[i]? = some m → m.Nodup ∧ m.length ≤ r.length ∧ ∀ z, z ∈ m ↔ z ∈ r
theorem Made.snoc {H H' : Hp} {qs : List Addr} {C q : Addr} {ms rs : List (List Str)} {r m : List Str} (h : Made H qs C ms rs) (s : Same H H') (hr : rs[ms.length]? = some r) (hq : H' q = some (.lst (m.map V.str))) (hC : q ≠ C)
    (e : m.Nodup ∧ m.length ≤ r.length ∧ ∀ z, z ∈ m ↔ z ∈ r) {o : HO} : Made (upd H' C o) (qs ++ [q]) C (ms ++ [m]) rs := by
  have ap : ∀ x ∈ qs ++ [q], x ≠ C := fun x hx => by
    rcases List.mem_append.mp hx with hx | hx
    · exact h.apart x hx
    · rw [List.mem_singleton.mp hx]; exact hC
  refine ⟨((h.rows.same s).snoc hq).put ap, ap, fun i r2 m2 hr2 hm2 => ?_⟩
  by_cases lt : i < ms.length
  · rw [List.getElem?_append_left lt] at hm2
    exact h.mem i r2 m2 hr2 hm2
  · have hi : i = ms.length := by
      have := (List.getElem?_eq_some_iff.mp hm2).1
      simp at this
      omega
    subst hi
    rw [hr] at hr2
    cases hr2
    rw [List.getElem?_append_right (Nat.le_refl _), Nat.sub_self] at hm2
    cases hm2
    exact e
/-- rows as tuples -/
structure TupsL (H : Hp) (qs : List Addr) (rs : List (List Str)) : Prop where
  len : qs.length = rs.length
  at_ : ∀ (i : Nat) (q : Addr) (r : List Str), qs[i]? = some q → rs[i]? = some r → H q = some (.tup (r.map V.str))
theorem TupsL.nil (H : Hp) : TupsL H [] [] := ⟨rfl, fun i q r h => by cases h⟩
theorem TupsL.same {H H' : Hp} {qs : List Addr} {rs : List (List Str)} (h : TupsL H qs rs) (s : Same H H') : TupsL H' qs rs := ⟨h.len, fun i q r hq hr => s _ _ (h.at_ i q r hq hr)⟩
theorem TupsL.put {H : Hp} {o : Addr} {ob : HO} {qs : List Addr} {rs : List (List Str)} (h : TupsL H qs rs) (n : ∀ q ∈ qs, q ≠ o) : TupsL (upd H o ob) qs rs :=
  ⟨h.len, fun i q r hq hr => by rw [upd_ne (n q (List.mem_of_getElem? hq))]; exact h.at_ i q r hq hr⟩
theorem TupsL.snoc {H : Hp} {qs : List Addr} {rs : List (List Str)} {q : Addr} {r : List Str} (h : TupsL H qs rs) (hq : H q = some (.tup (r.map V.str))) : TupsL H (qs ++ [q]) (rs ++ [r]) := by
  refine ⟨by rw [List.length_append, List.length_append, h.len]; rfl, fun i a c ha hc => ?_⟩
  by_cases lt : i < qs.length
  · rw [List.getElem?_append_left lt] at ha
    rw [List.getElem?_append_left (by rw [← h.len]; exact lt)] at hc
    exact h.at_ i a c ha hc
  · rw [List.getElem?_append_right (by omega)] at ha
    rw [List.getElem?_append_right (by rw [← h.len]; omega)] at hc
    have hi : i - qs.length = 0 := by
      have := (List.getElem?_eq_some_iff.mp ha).1
      simp at this
      omega
    rw [hi] at ha
    rw [← h.len, hi] at hc
    cases ha
    cases hc
    exact hq
theorem TupsL.rows {K : PySem.W.Frag} {H : Hp} {qs : List Addr} {rs : List (List Str)} (h : TupsL H qs rs) : RowsAt K H qs rs := ⟨h.len, fun i q r hq hr => .inr (SqT.of (h.at_ i q r hq hr))⟩
abbrev sLaw : Stmt := topS 11
theorem scLaw : FnScope ["_law_script", "_law_bag_here", "_law_turn", "_law_k", "_law_some", "_law_rows", "_law_row", "_law_kept", "_law_due", "_law_again", "_law_found", "_law_j", "_law_one"] ["_law_script"] (defScope sLaw) := ⟨rfl, rfl, rfl, by decide +kernel, rfl, by decide +kernel, by decide +kernel⟩
section
variable {P : Program} {w : World} {K : PySem.W.Frag} {mg : Str → Option Value} {base : Heap}
set_option maxHeartbeats 4000000 in
theorem ok_law {f fB fP fO fM fE fA fT fU fW : Addr} {fd fdB fdP fdO fdM fdE fdA fdT fdU fdW : FuncData} (F : Fun K "law" "law" sLaw f fd)
    (FB : Fun K "_law_bag" "_law_bag" sBag fB fdB) (bB : Binds K fdB ["_law_script"] []) (gB : mg "_law_bag" = some (.ref fB))
    (FP : Fun K "_law_pull" "_law_pull" sPull fP fdP) (bP : Binds K fdP ["_law_bag_here", "_law_many"] []) (gP : mg "_law_pull" = some (.ref fP))
    (FO : Fun K "_law_of" "_law_of" sOf fO fdO) (bO : Binds K fdO ["_law_bag_here", "_law_things"] []) (gO : mg "_law_of" = some (.ref fO))
    (FM : Fun K "_law_mixed" "_law_mixed" sMixed fM fdM) (bM : Binds K fdM ["_law_bag_here", "_law_things"] []) (gM : mg "_law_mixed" = some (.ref fM))
    (FE : Fun K "_law_same" "_law_same" sSame fE fdE) (bE : Binds K fdE ["_law_found", "_law_due"] []) (gE : mg "_law_same" = some (.ref fE))
    (FA : Fun K "_law_letters" "_law_letters" sLets fA fdA) (bA : Binds K fdA [] []) (gA : mg "_law_letters" = some (.ref fA))
    (FT : Fun K "turn" "turn" sTurn fT fdT) (bT : Binds K fdT ["ones", "text"] []) (gT : mg "turn" = some (.ref fT))
    (FU : Fun K "sum_of" "sum_of" sSumOf fU fdU) (bU : Binds K fdU ["lists"] []) (gU : mg "sum_of" = some (.ref fU))
    (FW : Fun K "_law_sum" "_law_sum" sLSum fW fdW) (bW : Binds K fdW ["_law_rows"] []) (gW : mg "_law_sum" = some (.ref fW))
    (TT : SameT mg) (mso : mg "sorted" = none) (mset : mg "set" = none) (mr : mg "range" = none) : FnOk P w K mg base CX0 3 f fd ["_law_script"] (spLaw K) := by
  have ml := TT.len
  have mli := TT.list
  have mtu := TT.tuple
  have GB : FnOk P w K mg base CX0 1 fB fdB ["_law_script"] (spBag K) := ok_bag FB mli
  have GP : FnOk P w K mg base CX0 1 fP fdP ["_law_bag_here", "_law_many"] spPull := ok_pull FP ml
  have GO : FnOk P w K mg base CX0 2 fO fdO ["_law_bag_here", "_law_things"] (spOf K) := ok_of FO FP bP gP ml
  have GM : FnOk P w K mg base CX0 2 fM fdM ["_law_bag_here", "_law_things"] (spMixed K) := ok_mixed FM FP bP gP ml mli mr
  have GE : FnOk P w K mg base CX0 2 fE fdE ["_law_found", "_law_due"] (spSame 1) := ok_same FE TT gE bE 1
  have GA : FnOk P w K mg base CX0 1 fA fdA [] spLets := ok_lets FA
  have GU : FnOk P w K mg base CX0 2 fU fdU ["lists"] (spSumL K) := ok_sumL FU FT bT gT mso mset
  have GV : FnOk P w K mg base CX0 2 fU fdU ["lists"] (spSumT K) := ok_sumT FU FT bT gT mso mset
  have GW : FnOk P w K mg base CX0 1 fW fdW ["_law_rows"] (spLSum K) := ok_lsum FW mso mset mli
  refine F.ok scLaw (fun vs H Q E h => ?_) (fun cdv A outer s H vs Q E hr h => ?_)
  · obtain ⟨a, ns, rfl, _⟩ := h
    rfl
  · obtain ⟨a, ns, rfl, ha, hn, qq⟩ := h
    have hr2 : Room 2 _ := hr
    have hr1 : Room 1 _ := hr.mono (by decide)
    refine ⟨_, pss_cons (ps_set (i := 1) scLaw.nd rfl (.inr rfl) (pe_call GB hr1 (by rfl) gB FB.kp bB .nil pass0 (pa_cons (pv 0) pa_nil)))
      (pss_cons (ps_for PassesOwn.never rfl (pi_range1 (by rfl) mr (pa_cons pe_int pa_nil)) (pg_name (i := 2) scLaw.nd rfl (.inl rfl))
        (pss_cons (ps_setLc (i := 4) (own := [("_law_j", 11)]) (g := gName 11) (tt := tYes) rfl scLaw.nd rfl rfl (sw_true rfl rfl rfl (by decide +kernel)) (pi_range1 (by rfl) mr (pa_cons (pe_op op_add pe_int (pe_call GP hr1 (by rfl) gP FP.kp bP .nil pass0 (pa_cons (pv 1) (pa_cons pe_int pa_nil)))) pa_nil)) (blkOk_by (own := [("_law_j", 11)]) (N := ["_law_script", "_law_bag_here", "_law_turn", "_law_k", "_law_some", "_law_rows", "_law_row", "_law_kept", "_law_due", "_law_again", "_law_found", "_law_j", "_law_one"]) (sc := defScope sLaw) (by decide +kernel))
            (fun _ _ _ _ _ => pg_name (i := 11) scLaw.nd rfl (Or.inl rfl)) (fun _ _ _ _ _ => pts_nil) (fun _ _ _ _ _ => (pe_joinK (K := K) rfl pe_str (pe_lc (own := [("_law_k", 3)]) (g := gName 3) (tt := tYes) rfl scLaw.nd (pi_range1 (by rfl) mr (pa_cons pe_int pa_nil)) (show BlkOk ["_law_script", "_law_bag_here", "_law_turn", "_law_k", "_law_some", "_law_rows", "_law_row", "_law_kept", "_law_due", "_law_again", "_law_found", "_law_j", "_law_one"] (relS _ (defScope sLaw)) _ _ from blkOk_by (by decide +kernel))
            (fun _ _ _ _ _ => pg_name (i := 3) scLaw.nd rfl (Or.inl rfl)) (fun _ _ _ _ _ => pts_nil) (fun _ _ _ _ _ => (pe_call GO hr2 (by rfl) gO FO.kp bO .nil pass0 (pa_cons (pv 1) (pa_cons (pe_callTy (call_listS rfl) (by rfl) mli boot_list (pa_cons (pe_call0 GA hr1 (by rfl) gA FA.kp bA .nil pass0) pa_nil)) pa_nil))))))))
        (pss_cons (ps_set (i := 5) scLaw.nd rfl (.inl rfl) (pe_lst pa_nil))
        (pss_cons (ps_for PassesOwn.never rfl (pi_range1 (by rfl) mr (pa_cons (pe_call GP hr1 (by rfl) gP FP.kp bP .nil pass0 (pa_cons (pv 1) (pa_cons pe_int pa_nil))) pa_nil)) (pg_name (i := 3) scLaw.nd rfl (.inl rfl))
          (pss_cons (ps_set (i := 6) scLaw.nd rfl (.inl rfl) (pe_call GM hr2 (by rfl) gM FM.kp bM .nil pass0 (pa_cons (pv 1) (pa_cons (pe_callB (show CallR _ _ (rSortT w) from cr_sortT rfl) (by rfl) mso boot_sorted (pa_cons (pe_callTy (show CallR _ _ (rSetT K w) from cr_setT rfl) (by rfl) mset boot_set (pa_cons (pe_lc (own := [("_law_one", 12)]) (g := gName 12) rfl scLaw.nd (pi_list (pv 4)) (blkOk_by (own := [("_law_one", 12)]) (N := ["_law_script", "_law_bag_here", "_law_turn", "_law_k", "_law_some", "_law_rows", "_law_row", "_law_kept", "_law_due", "_law_again", "_law_found", "_law_j", "_law_one"]) (sc := defScope sLaw) (by decide +kernel))
            (fun _ _ _ _ _ => pg_name (i := 12) scLaw.nd rfl (Or.inl rfl)) (fun _ _ _ _ _ => pts_one (pt_cmpR op_eq (pe_call GP hr1 (by rfl) gP FP.kp bP .nil pass0 (pa_cons (pv 1) (pa_cons pe_int pa_nil))) pe_int (nomark _))) (fun _ _ _ _ _ => pv 12)) pa_nil)) pa_nil)) pa_nil))))
          (pss_one (ps_expr (pe_bm PySem.F.plainAttrs_list PySem.F.slot_list_append PySem.F.type_list_append mt_append (pv 5) (pa_cons (pe_op op_cat (pv 6) (pe_slice sl_list (pv 6) po_none (po_some (pe_call GP hr1 (by rfl) gP FP.kp bP .nil pass0 (pa_cons (pv 1) (pa_cons pe_int pa_nil)))))) pa_nil))))))
        (pss_cons (ps_setLc (i := 7) (own := [("_law_row", 6)]) (g := gName 6) (tt := tYes) rfl scLaw.nd rfl rfl (sw_true rfl rfl rfl (by decide +kernel)) (pi_list (pv 5)) (blkOk_by (own := [("_law_row", 6)]) (N := ["_law_script", "_law_bag_here", "_law_turn", "_law_k", "_law_some", "_law_rows", "_law_row", "_law_kept", "_law_due", "_law_again", "_law_found", "_law_j", "_law_one"]) (sc := defScope sLaw) (by decide +kernel))
            (fun _ _ _ _ _ => pg_name (i := 6) scLaw.nd rfl (Or.inl rfl)) (fun _ _ _ _ _ => pts_nil) (fun _ _ _ _ _ => (pe_callTy (show CallR _ _ (rListOf K) from cr_listOf) (by rfl) mli boot_list (pa_cons (pv 6) pa_nil))))
        (pss_cons (ps_set (i := 8) scLaw.nd rfl (.inl rfl) (pe_call GW hr1 (by rfl) gW FW.kp bW .nil pass0 (pa_cons (pe_lc (own := [("_law_row", 6)]) (g := gName 6) (tt := tYes) rfl scLaw.nd (pi_list (pv 5)) (blkOk_by (own := [("_law_row", 6)]) (N := ["_law_script", "_law_bag_here", "_law_turn", "_law_k", "_law_some", "_law_rows", "_law_row", "_law_kept", "_law_due", "_law_again", "_law_found", "_law_j", "_law_one"]) (sc := defScope sLaw) (by decide +kernel))
            (fun _ _ _ _ _ => pg_name (i := 6) scLaw.nd rfl (Or.inl rfl)) (fun _ _ _ _ _ => pts_nil) (fun _ _ _ _ _ => (pe_callB (show CallR _ _ (rSortT w) from cr_sortT rfl) (by rfl) mso boot_sorted (pa_cons (pe_callTy (show CallR _ _ (rSetT K w) from cr_setT rfl) (by rfl) mset boot_set (pa_cons (pv 6) pa_nil)) pa_nil)))) pa_nil)))
        (pss_cons (ps_for PassesOwn.never rfl (pi_range1 (by rfl) mr (pa_cons pe_int pa_nil)) (pg_name (i := 9) scLaw.nd rfl (.inl rfl))
          (pss_cons (ps_set (i := 10) scLaw.nd rfl (.inl rfl) (pe_call GU hr2 (by rfl) gU FU.kp bU .nil pass0 (pa_cons (pv 5) pa_nil)))
          (pss_cons (ps_if (PW.pt (pw_or (pt_not (pt_val (pe_call GE hr2 (by rfl) gE FE.kp bE .nil pass0 (pa_cons (pv 10) (pa_cons (pv 8) pa_nil))))) (pw_or1 (pt_cmpR (op_neD hr.units) (pv 5) (pv 7) (nomark _))))) pss_never pss_nil)
          (pss_one (ps_expr (pe_bm PySem.F.plainAttrs_list PySem.F.slot_list_append PySem.F.type_list_append mt_append (pv 10) (pa_cons pe_str pa_nil)))))))
        (pss_one (ps_if (PW.pt (pw_or (pt_not (pt_val (pe_call GE hr2 (by rfl) gE FE.kp bE .nil pass0 (pa_cons (pe_call GU hr2 (by rfl) gU FU.kp bU .nil pass0 (pa_cons (pe_op op_cat (pv 5) (pv 5)) pa_nil)) (pa_cons (pe_lst pa_nil) pa_nil))))) (pw_or1 (pt_not (pt_val (pe_call GE hr2 (by rfl) gE FE.kp bE .nil pass0 (pa_cons (pe_call GV hr2 (by rfl) gU FU.kp bU .nil pass0 (pa_cons (pe_callTy tupOf (by rfl) mtu boot_tuple (pa_cons (pe_lc (own := [("_law_row", 6)]) (g := gName 6) (tt := tYes) rfl scLaw.nd (pi_list (pv 5)) (blkOk_by (own := [("_law_row", 6)]) (N := ["_law_script", "_law_bag_here", "_law_turn", "_law_k", "_law_some", "_law_rows", "_law_row", "_law_kept", "_law_due", "_law_again", "_law_found", "_law_j", "_law_one"]) (sc := defScope sLaw) (by decide +kernel))
            (fun _ _ _ _ _ => pg_name (i := 6) scLaw.nd rfl (Or.inl rfl)) (fun _ _ _ _ _ => pts_nil) (fun _ _ _ _ _ => (pe_callTy tupOf (by rfl) mtu boot_tuple (pa_cons (pv 6) pa_nil)))) pa_nil)) pa_nil)) (pa_cons (pv 8) pa_nil)))))))) pss_never pss_nil)))))))))
      (pss_one (ps_ret (pe_cmpR (op_eqD hr.units) (pe_call GU hr2 (by rfl) gU FU.kp bU .nil pass0 (pa_cons (pe_lst pa_nil) pa_nil)) (pe_lst pa_nil) (nomark _))))), ?_⟩
    refine ⟨_, rfl, a, ns, rfl, ha, fun H0 b l s0 nb nl B0 => ?_⟩
    refine ⟨8, rfl, by decide, by decide, ?_⟩
    refine for_range (lo := 0) (n := 8) (fun i σ H' => ∃ y2 y3 y4 y5 y6 y7 y8 y9 y10 y11 y12 : Option V, σ = [some (.ref a), some (.ref b), y2, y3, y4, y5, y6, y7, y8, y9, y10, y11, y12] ∧ Bag H' b l) ⟨none, none, none, none, none, none, none, none, none, none, none, rfl, B0⟩ ?_ ?_
    · rintro i σ H1 hi ⟨y2, y3, y4, y5, y6, y7, y8, y9, y10, y11, y12, rfl, B1⟩
      refine ⟨_, rfl, b, l, 6, rfl, B1, by decide, by decide, fun H2 d k2 B2 d0 d1 => ?_⟩
      refine ⟨1, d, rfl, rfl, _, rfl, by omega, by omega, fun D nD => ?_⟩
      have nDb : D ≠ b := B2.nb nD
      have nDl : D ≠ l := B2.nl nD
      refine lc_range (lo := 0) (n := ((1 : Int) + d).toNat) (fun i H' => Bag H' b l ∧ ∃ us : List Str, H' D = some (.lst (us.map V.str)) ∧ us.length = i ∧ ∀ z ∈ us, PyData.strOk z = true)
        ⟨B2.new nD, [], upd_same, rfl, fun z hz => absurd hz List.not_mem_nil⟩ ?_ ?_
      · rintro j H' hj ⟨B', us, hD, hlen, hall⟩
        refine ⟨rfl, ?_⟩
        refine ⟨⟨_, rfl⟩, 2, rfl, by decide, by decide, fun C nC => ?_⟩
        have nCb : C ≠ b := B'.nb nC
        refine lc_range (lo := 0) (n := 2) (fun i J => Kp b H' J ∧ Bag J b l ∧ ∃ cs : List Nat, J C = some (.lst (cs.map sig)) ∧ cs.length = i ∧ ∀ c ∈ cs, c ∈ alpha)
          ⟨Kp.new nC, B'.new nC, [], upd_same, rfl, fun c hc => absurd hc List.not_mem_nil⟩ ?_ ?_
        · rintro j' J hj' ⟨kJ, BJ, cs, hC, hcl, hca⟩
          refine ⟨rfl, ?_⟩
          refine ⟨_, rfl, rfl, _, rfl, by rw [txt_alpha, txt_len]; decide, fun p np => ?_⟩
          rw [txt_alpha, txt_cps]
          refine ⟨b, l, .ref p, alpha.map sig, rfl, BJ.new np, .inl ⟨p, rfl, BJ.nb np, SqL.of upd_same⟩, by decide, by decide, fun J2 x kJ2 BJ2 hx => ?_⟩
          obtain ⟨c, hc, rfl⟩ := List.mem_map.mp hx
          have hC2 := kJ2 _ _ nCb ((same_upd np) _ _ hC)
          refine ⟨_, hC2, by rw [List.length_map, hcl]; exact small1000 (by omega), ((kJ.trans (Kp.new np)).trans kJ2).put nC, BJ2.put nCb (B'.nl nC), cs ++ [c], ?_, by rw [List.length_append, hcl]; rfl, ?_⟩
          · rw [upd_same, List.map_append]
            rfl
          · intro z hz
            rcases List.mem_append.mp hz with hz | hz
            · exact hca _ hz
            · rw [List.mem_singleton.mp hz]; exact hc
        rintro J ⟨kJ, BJ, cs, hC, hcl, hca⟩
        have hu : J C = some (.lst ((cs.map fun c => txt [c]).map V.str)) := by
          rw [hC, List.map_map]
          rfl
        refine ⟨Str.ofString "", C, cs.map (fun c => txt [c]), rfl, rfl, .inl (SqL.of hu), ?_, ?_⟩
        · rw [len_ones, txt_empty, txt_len]; simp; omega
        rw [join_sigs]
        refine ⟨_, kJ _ _ nDb hD, by rw [List.length_map, hlen]; exact small1000 (by omega), BJ.put nDb nDl, us ++ [txt cs], ?_, by rw [List.length_append, hlen]; rfl, ?_⟩
        · rw [upd_same, List.map_append]
          rfl
        · intro z hz
          rcases List.mem_append.mp hz with hz | hz
          · exact hall _ hz
          · rw [List.mem_singleton.mp hz]
            exact strOk_alpha cs hca
      rintro H3 ⟨B3, us, hD, hlen, hall⟩
      have ulen : us.length ≤ 6 := by omega
      -- the rows
      refine ⟨Nat.zero_le _, fun R nR => ?_⟩
      have nRb : R ≠ b := B3.nb nR
      have nRl : R ≠ l := B3.nl nR
      have nDR : D ≠ R := fun e => by rw [← e, hD] at nR; cases nR
      refine ⟨_, rfl, b, l, 6, rfl, B3.new nR, by decide, by decide, fun H4 e k4 B4 e0 e1 => ⟨_, rfl, by omega, by omega, ?_⟩⟩
      refine for_range (lo := 0) (n := e.toNat) (fun k σ H' => ∃ (z3 z6 : Option V) (qs : List Addr) (rs : List (List Str)), σ = [some (.ref a), some (.ref b), some (.int (0 + (i : Int))), z3, some (.ref D), some (.ref R), z6, y7, y8, y9, y10, y11, y12]
          ∧ Bag H' b l ∧ H' D = some (.lst (us.map V.str)) ∧ H' R = some (.lst (qs.map V.ref)) ∧ RowsL H' qs rs ∧ rs.length = k ∧ (∀ q ∈ qs, q ≠ b ∧ q ≠ R) ∧ ∀ r ∈ rs, r.length ≤ 12 ∧ ∀ z ∈ r, z ∈ us)
        ⟨_, _, [], [], rfl, B4, k4 _ _ nDb ((same_upd nR) _ _ hD), k4 _ _ nRb upd_same, RowsL.nil _, rfl, fun q hq => absurd hq List.not_mem_nil, fun r hr => absurd hr List.not_mem_nil⟩ ?_ ?_
      · rintro k σ H6 hk ⟨z3, z6, qs, rs, rfl, B6, hD6, hR6, rows6, len6, ap6, in6⟩
        refine ⟨_, rfl, _, rfl, D, rfl, ⟨_, SqL.of hD6⟩, fun C nC => ?_⟩
        have nCb : C ≠ b := B6.nb nC
        have nCl : C ≠ l := B6.nl nC
        refine lc_list (K := K) (a := D) (xs := us.map V.str) (fun i J => Kp b H6 J ∧ Bag J b l ∧ ∃ vs : List Str, J C = some (.lst (vs.map V.str)) ∧ vs.length ≤ i ∧ ∀ z ∈ vs, z ∈ us)
          ⟨Kp.new nC, B6.new nC, [], upd_same, Nat.le_refl _, fun z hz => absurd hz List.not_mem_nil⟩ (fun i J _ hv => SqL.of (hv.1 _ _ nDb hD6)) ?_ ?_
        · rintro j v J hv ⟨kJ, BJ, vs, hC, hvl, hvm⟩
          rw [List.getElem?_map] at hv
          cases ex : us[j]? with
          | none => rw [ex] at hv; cases hv
          | some z =>
            rw [ex] at hv
            have ev : v = .str z := (Option.some.inj hv).symm
            subst ev
            have hj : j < us.length := (List.getElem?_eq_some_iff.mp ex).1
            refine ⟨rfl, ?_⟩
            refine ⟨_, rfl, b, l, 2, rfl, BJ, by decide, by decide, fun J2 g kJ2 BJ2 g0 g1 => ⟨rfl, _, rfl, ?_⟩⟩
            cases hdec : decide (V.int g = V.int 0) with
            | false => exact iteF ⟨kJ.trans kJ2, BJ2, vs, kJ2 _ _ nCb hC, by omega, hvm⟩
            | true =>
              refine iteT ⟨_, rfl, _, kJ2 _ _ nCb hC, by rw [List.length_map]; exact small1000 (by omega), (kJ.trans kJ2).put nC, BJ2.put nCb nCl, vs ++ [z], ?_, ?_, ?_⟩
              · rw [upd_same, List.map_append]
                rfl
              · rw [List.length_append]
                show vs.length + 1 ≤ j + 1
                omega
              · intro y hy
                rcases List.mem_append.mp hy with hy | hy
                · exact hvm _ hy
                · rw [List.mem_singleton.mp hy]; exact List.mem_of_getElem? ex
        rintro J ⟨kJ, BJ, vs, hC, hvl, hvm⟩
        rw [List.length_map] at hvl
        refine ⟨C, vs, rfl, .inl (SqL.of hC), by omega, fun sa nsa => ⟨sa, _, rfl, upd_same, Nat.le_trans (members_len _) (by omega), fun up p perm srt np => ?_⟩⟩
        have upl : up.length ≤ 6 := by rw [perm.length_eq]; exact Nat.le_trans (members_len _) (by omega)
        have upm : ∀ z, z ∈ up → z ∈ us := fun z hz => hvm z (members_mem.mp (perm.mem_iff.mp hz))
        have Bp := (BJ.new (o := SetSO w sa (members vs)) nsa).new (o := .lst (up.map V.str)) np
        refine ⟨b, l, p, up.map V.str, rfl, Bp, (BJ.new nsa).nb np, SqL.of upd_same, by rw [List.length_map]; omega, fun H7 q ys k7 B7 nq hq pm => ?_⟩
        obtain ⟨ms, rfl, pmS⟩ := perm_txts pm
        have k67 : Kp b H6 H7 := (kJ.trans (Kp.new nsa)).trans ((Kp.new np).trans k7)
        have nqb : q ≠ b := Bp.nb nq
        have hR7 := k67 _ _ nRb hR6
        refine ⟨_, rfl, .inl ⟨rfl, _, SqL.of hR7⟩, _, rfl, _, rfl, _, rfl, b, l, 3, rfl, B7, by decide, by decide, fun H8 g k8 B8 g0 g1 => ⟨g, rfl, q, _, rfl, SqL.of (k8 _ _ nqb hq), fun t nt => ?_⟩⟩
        have ecut : cutV (ms.map V.str) none (some g) = (ms.take g.toNat).map V.str := by
          rw [show g = ((g.toNat : Nat) : Int) from by omega, cutV_take, List.map_take]
          rfl
        rw [ecut]
        have msl : ms.length ≤ 6 := by rw [pmS.length_eq]; exact upl
        have tkl : (ms.take g.toNat).length ≤ 6 := Nat.le_trans (by rw [List.length_take]; exact Nat.min_le_right _ _) msl
        refine ⟨q, t, _, _, rfl, rfl, (same_upd nt) _ _ (k8 _ _ nqb hq), upd_same, by rw [List.length_map, List.length_map]; exact Nat.le_of_lt (small1000 (by omega)), fun o no => ?_⟩
        have s8 : Same H8 (upd (upd H8 t (.lst ((ms.take g.toNat).map V.str))) o (.lst (ms.map V.str ++ (ms.take g.toNat).map V.str))) := (same_upd nt).trans (same_upd no)
        have kAll := k67.trans (k8.trans (Kp.of_same s8))
        have nob : o ≠ b := (B8.new nt).nb no
        have noR : o ≠ R := fun e => by
          have h := (same_upd (o := .lst ((ms.take g.toNat).map V.str)) nt) _ _ (k8 _ _ nRb hR7)
          rw [← e, no] at h
          cases h
        have ap : ∀ x ∈ qs ++ [o], x ≠ b ∧ x ≠ R := fun x hx => by
          rcases List.mem_append.mp hx with hx | hx
          · exact ap6 x hx
          · rw [List.mem_singleton.mp hx]; exact ⟨nob, noR⟩
        have ho : (upd (upd H8 t (.lst ((ms.take g.toNat).map V.str))) o (.lst (ms.map V.str ++ (ms.take g.toNat).map V.str))) o = some (.lst ((ms ++ ms.take g.toNat).map V.str)) := by rw [upd_same, List.map_append]
        refine ⟨R, _, _, rfl, rfl, kAll _ _ nRb hR6, by rw [List.length_map, rows6.len]; exact small1000 (by omega), _, _, qs ++ [o], rs ++ [ms ++ ms.take g.toNat], rfl, (B8.same s8).put nRb nRl, ?_, ?_, ?_, by rw [List.length_append, len6]; rfl, ap, ?_⟩
        · rw [upd_ne nDR]
          exact kAll _ _ nDb hD6
        · rw [upd_same, List.map_append]
          rfl
        · exact ((rows6.kp kAll fun x hx => (ap6 x hx).1).snoc ho).put fun x hx => (ap x hx).2
        · intro r hr
          rcases List.mem_append.mp hr with hr | hr
          · exact in6 r hr
          · rw [List.mem_singleton.mp hr]
            refine ⟨by rw [List.length_append]; omega, fun z hz => ?_⟩
            rcases List.mem_append.mp hz with hz | hz
            · exact upm z (pmS.mem_iff.mp hz)
            · exact upm z (pmS.mem_iff.mp (List.mem_of_mem_take hz))
      rintro σ H9 ⟨z3, z6, qs, rs, rfl, B9, hD9, hR9, rows9, len9, ap9, in9⟩
      have rsl : rs.length ≤ 5 := by omega
      have okz : ∀ r ∈ rs, ∀ z ∈ r, PyData.strOk z = true := fun r hr z hz => hall z ((in9 r hr).2 z hz)
      have qlen : (qs.map V.ref).length = rs.length := by rw [List.length_map, rows9.len]
      -- one row of the rows
      have nth : ∀ {j : Nat} {v : V}, (qs.map V.ref)[j]? = some v → ∃ q r, v = .ref q ∧ q ∈ qs ∧ r ∈ rs ∧ rs[j]? = some r ∧ H9 q = some (.lst (r.map V.str)) := by
        intro j v hv
        have hj : j < (qs.map V.ref).length := (List.getElem?_eq_some_iff.mp hv).1
        have hjr : j < rs.length := by rw [← qlen]; exact hj
        have hjq : j < qs.length := by rw [rows9.len]; exact hjr
        rw [List.getElem?_map, List.getElem?_eq_getElem hjq] at hv
        exact ⟨qs[j], rs[j], (Option.some.inj hv).symm, List.getElem_mem _, List.getElem_mem _, List.getElem?_eq_getElem hjr, rows9.at_ j _ _ (List.getElem?_eq_getElem hjq) (List.getElem?_eq_getElem hjr)⟩
      -- the copies
      refine ⟨_, rfl, R, rfl, ⟨_, SqL.of hR9⟩, fun C nC => ?_⟩
      refine lc_list (K := K) (a := R) (xs := qs.map V.ref) (fun i J => Same H9 J ∧ ∃ cs : List Addr, J C = some (.lst (cs.map V.ref)) ∧ (∀ c ∈ cs, c ≠ C) ∧ RowsL J cs (rs.take i))
        ⟨same_upd nC, [], upd_same, fun c hc => absurd hc List.not_mem_nil, RowsL.nil _⟩ (fun i J _ hv => SqL.of (hv.1 _ _ hR9)) ?_ ?_
      · rintro j v J hv ⟨sJ, cs, hC, apc, rowc⟩
        obtain ⟨q, r, rfl, hqm, hrm, hr, hq⟩ := nth hv
        have hj : j < rs.length := (List.getElem?_eq_some_iff.mp hr).1
        refine ⟨rfl, ?_⟩
        refine ⟨_, rfl, q, r.map V.str, rfl, .inl (SqL.of (sJ _ _ hq)), fun c nc => ?_⟩
        have ncC : c ≠ C := fun e => by rw [e, hC] at nc; cases nc
        have ap : ∀ x ∈ cs ++ [c], x ≠ C := fun x hx => by
          rcases List.mem_append.mp hx with hx | hx
          · exact apc x hx
          · rw [List.mem_singleton.mp hx]; exact ncC
        refine ⟨_, (same_upd nc) _ _ hC, by rw [List.length_map, rowc.len, List.length_take]; exact small1000 (by omega), same_put (sJ.trans (same_upd nc)) nC, cs ++ [c], ?_, ap, ?_⟩
        · rw [upd_same, List.map_append]
          rfl
        · rw [List.take_succ, hr]
          exact ((rowc.same (same_upd nc)).snoc upd_same).put ap
      rintro H10 ⟨s10, cs, hC, apc, rowc⟩
      rw [qlen, List.take_length] at rowc
      -- what is due
      refine ⟨_, rfl, R, rfl, ⟨_, SqL.of (s10 _ _ hR9)⟩, fun M nM => ?_⟩
      refine lc_list (K := K) (a := R) (xs := qs.map V.ref) (fun i J => Same H10 J ∧ ∃ (ds : List Addr) (ms : List (List Str)), J M = some (.lst (ds.map V.ref)) ∧ ms.length = i ∧ Made J ds M ms rs)
        ⟨same_upd nM, [], [], upd_same, rfl, RowsL.nil _, fun c hc => absurd hc List.not_mem_nil, fun i r m _ hm => by cases hm⟩ (fun i J _ hv => SqL.of (hv.1 _ _ (s10 _ _ hR9))) ?_ ?_
      · rintro j v J hv ⟨sJ, ds, ms, hM, hml, mk⟩
        obtain ⟨q, r, rfl, hqm, hrm, hr, hq⟩ := nth hv
        have hj : j < rs.length := (List.getElem?_eq_some_iff.mp hr).1
        have rl := (in9 r hrm).1
        refine ⟨rfl, ?_⟩
        refine ⟨_, rfl, q, r, rfl, .inl (SqL.of (sJ _ _ (s10 _ _ hq))), by omega, fun sa nsa => ⟨sa, _, rfl, upd_same, Nat.le_trans (members_len _) (by omega), fun up p perm srt np => ?_⟩⟩
        have sp : Same J (upd (upd J sa (SetSO w sa (members r))) p (.lst (up.map V.str))) := (same_upd nsa).trans (same_upd np)
        have npM : p ≠ M := fun e => by
          have h := (same_upd (o := SetSO w sa (members r)) nsa) _ _ hM
          rw [← e, np] at h
          cases h
        refine ⟨_, sp _ _ hM, by rw [List.length_map, mk.rows.len, hml]; exact small1000 (by omega), same_put (sJ.trans sp) nM, ds ++ [p], ms ++ [up], ?_, by rw [List.length_append, hml]; rfl, ?_⟩
        · rw [upd_same, List.map_append]
          rfl
        · exact mk.snoc sp (by rw [hml]; exact hr) upd_same npM ⟨perm.nodup_iff.mpr (members_nodup _), by rw [perm.length_eq]; exact members_len _, fun z => perm.mem_iff.trans members_mem⟩
      rintro H11 ⟨s11, ds, ms, hM, hml, mk⟩
      rw [qlen] at hml
      have each : ∀ m ∈ ms, m.Nodup ∧ m.length ≤ 12 := by
        intro m hm
        obtain ⟨j, hj⟩ := List.getElem?_of_mem hm
        have hjm : j < ms.length := (List.getElem?_eq_some_iff.mp hj).1
        have hjr : j < rs.length := by omega
        have f := mk.mem j rs[j] m (List.getElem?_eq_getElem hjr) hj
        exact ⟨f.1, Nat.le_trans f.2.1 (in9 _ (List.getElem_mem hjr)).1⟩
      refine ⟨M, ds, ms, rfl, SqL.of hM, mk.rows.rows, ?_, fun m hm => (each m hm).1, fun H12 du ys s12 ndu hdu sums0 => ?_⟩
      · have := flat_le ms fun m hm => (each m hm).2
        rw [hml] at this
        omega
      have sums : Sums rs ys := ⟨sums0.sort, sums0.nodup, fun z => by
        rw [sums0.mem z, cnt_members z rs ms hml.symm fun j r m hr hm => (mk.mem j r m hr hm).2.2 z]⟩
      have yl6 : ys.length ≤ 6 := by
        have h : ys.length ≤ us.length := nodup_len ys us sums.nodup fun z hz => by
          have c1 := (sums.mem z).mp hz
          have c2 : 0 < cnt z rs := by omega
          obtain ⟨r, hr, hz⟩ := List.countP_pos_iff.mp c2
          exact (in9 r hr).2 z (of_decide_eq_true hz)
        omega
      have yl : ys.length ≤ 10000 := by omega
      have few : Few44 rs us := ⟨by omega, by omega, fun r hr => ⟨Nat.le_trans (in9 r hr).1 (by decide), (in9 r hr).2⟩⟩
      have s912 : Same H9 H12 := s10.trans (s11.trans s12)
      have hR12 := s912 _ _ hR9
      have rows12 := rows9.same s912
      have hC12 := (s11.trans s12) _ _ hC
      have row12 := rowc.same (s11.trans s12)
      have B12 := B9.same s912
      clear hM mk each sums0 s12
      -- two rounds
      refine ⟨2, rfl, by decide, by decide, ?_⟩
      refine for_range (lo := 0) (n := 2) (fun k σ H' => ∃ z9 z10 : Option V, σ = [some (.ref a), some (.ref b), some (.int (0 + (i : Int))), z3, some (.ref D), some (.ref R), z6, some (.ref C), some (.ref du), z9, z10, y11, y12] ∧ Same H12 H') ⟨_, _, rfl, Same.refl _⟩ ?_ ?_
      · rintro k σ J0 hk ⟨z9, z10, rfl, s0⟩
        refine ⟨_, rfl, R, qs, rs, us, rfl, SqL.of (s0 _ _ hR12), (rows12.same s0).rows, few, fun J1 fo ys1 s1 nfo hfo su1 => ?_⟩
        have ey : ys1 = ys := su1.one sums
        subst ey
        refine ⟨_, rfl, _, rfl, _, _, rfl, eqv_txts hfo (s1 _ _ (s0 _ _ hdu)) yl, fun J2 s2 => ⟨true, rfl, iteF ?_⟩⟩
        have s02 := s0.trans (s1.trans s2)
        refine ⟨_, rfl, _, rfl, _, _, .lst (SqL.of (s02 _ _ hR12)) (dp_rows qs rs (rows12.same s02)), .lst (SqL.of (s02 _ _ hC12)) (dp_rows cs rs (row12.same s02)), shaped_rows okz, shaped_rows okz, ?_⟩
        rw [eqv_rows okz]
        refine ⟨false, rfl, iteF ?_⟩
        refine ⟨_, rfl, .inl ⟨rfl, _, SqL.of (s2 _ _ hfo)⟩, fo, _, _, rfl, rfl, s2 _ _ hfo, by rw [List.length_map]; exact small1000 (by omega), _, _, rfl, same_put s02 (s0.free nfo)⟩
      rintro σ J0 ⟨z9, z10, rfl, s0⟩
      -- the rows twice, and as tuples
      refine ⟨_, rfl, _, rfl, R, R, _, _, rfl, rfl, s0 _ _ hR12, s0 _ _ hR12, by rw [qlen]; exact Nat.le_of_lt (small1000 (by omega)), fun t nt => ?_⟩
      refine ⟨t, qs ++ qs, rs ++ rs, us, rfl, ?_, ?_, ?_, fun J1 fo ys1 s1 nfo hfo su1 => ?_⟩
      · rw [List.map_append]
        exact SqL.of upd_same
      · exact (((rows12.same s0).same (same_upd nt)).rows).twice
      · refine ⟨few.1, by rw [List.length_append]; omega, fun r hr => few.2.2 r ?_⟩
        rcases List.mem_append.mp hr with h | h <;> exact h
      have e0 : ys1 = [] := su1.empty
      subst e0
      refine ⟨Nat.zero_le _, fun em nem => ?_⟩
      refine ⟨_, _, rfl, eqv_txts (ys := []) ((same_upd nem) _ _ hfo) upd_same (Nat.zero_le _), fun J2 s2 => ⟨true, rfl, iteF ?_⟩⟩
      have s02 : Same H12 J2 := s0.trans ((same_upd nt).trans (s1.trans ((same_upd nem).trans s2)))
      refine ⟨_, rfl, R, rfl, ⟨_, SqL.of (s02 _ _ hR12)⟩, fun T nT => ?_⟩
      refine lc_list (K := K) (a := R) (xs := qs.map V.ref) (fun i J => Same J2 J ∧ ∃ ts : List Addr, J T = some (.lst (ts.map V.ref)) ∧ (∀ c ∈ ts, c ≠ T) ∧ TupsL J ts (rs.take i))
        ⟨same_upd nT, [], upd_same, fun c hc => absurd hc List.not_mem_nil, TupsL.nil _⟩ (fun i J _ hv => SqL.of (hv.1 _ _ (s02 _ _ hR12))) ?_ ?_
      · rintro j v J hv ⟨sJ, ts, hT, apt, rowt⟩
        obtain ⟨q, r, rfl, hqm, hrm, hr, hq⟩ := nth hv
        have hj : j < rs.length := (List.getElem?_eq_some_iff.mp hr).1
        refine ⟨rfl, ?_⟩
        refine ⟨_, rfl, q, r.map V.str, rfl, sJ _ _ (s02 _ _ (s912 _ _ hq)), fun c nc => ?_⟩
        have ncT : c ≠ T := fun e => by rw [e, hT] at nc; cases nc
        have ap : ∀ x ∈ ts ++ [c], x ≠ T := fun x hx => by
          rcases List.mem_append.mp hx with hx | hx
          · exact apt x hx
          · rw [List.mem_singleton.mp hx]; exact ncT
        refine ⟨_, (same_upd nc) _ _ hT, by rw [List.length_map, rowt.len, List.length_take]; exact small1000 (by omega), same_put (sJ.trans (same_upd nc)) nT, ts ++ [c], ?_, ap, ?_⟩
        · rw [upd_same, List.map_append]
          rfl
        · rw [List.take_succ, hr]
          exact ((rowt.same (same_upd nc)).snoc upd_same).put ap
      rintro J3 ⟨s3, ts, hT, apt, rowt⟩
      rw [qlen, List.take_length] at rowt
      refine ⟨T, _, rfl, hT, fun u nu => ?_⟩
      refine ⟨u, ts, rs, us, rfl, SqT.of upd_same, (rowt.same (same_upd nu)).rows, few, fun J4 fo2 ys2 s4 nfo2 hfo2 su2 => ?_⟩
      have ey : ys2 = ys := su2.one sums
      subst ey
      have s04 : Same H12 J4 := s02.trans (s3.trans ((same_upd nu).trans s4))
      refine ⟨_, rfl, _, _, rfl, eqv_txts hfo2 (s04 _ _ hdu) yl, fun J5 s5 => ⟨true, rfl, iteF ?_⟩⟩
      exact ⟨_, _, _, _, _, _, _, _, _, _, _, rfl, B12.same (s04.trans s5)⟩
    · rintro σ H1 ⟨y2, y3, y4, y5, y6, y7, y8, y9, y10, y11, y12, rfl, B1⟩
      refine ⟨Nat.zero_le _, fun p np => ⟨p, [], [], [], rfl, SqL.of upd_same, (RowsL.nil _).rows, ⟨by decide, by decide, fun r hr => absurd hr List.not_mem_nil⟩, fun H2 q ys s2 nq hq su => ?_⟩⟩
      have e0 : ys = [] := su.nil
      subst e0
      refine ⟨Nat.zero_le _, fun r nr => ⟨_, _, .lst (SqL.of ((same_upd nr) _ _ hq)) .nil, .lst (SqL.of upd_same) .nil, by decide, by decide, ?_⟩⟩
      exact qq _
end


end T44

namespace T44
open PySem PySem.Spec PyProof.Rows L2 Tm
theorem all_mk {l : PySem.W.OpenLaw} {w : World} {K : PySem.W.Frag} {h : Heap} {mg : Str → Option Value} {fa f1 f2 f3 f4 f5 f6 f7 f8 f9 f10 : Addr} (X : K.In h) (G : h.Ns mainGlobals mg) (hfa : mg "law" = some (.ref fa))
     {od1 od2 od3 od4 od5 od6 od7 od8 od9 od10 an1 an2 an3 an4 an5 an6 an7 an8 an9 an10 : Option Addr} {sl1 sl2 sl3 sl4 sl5 sl6 sl7 sl8 sl9 sl10 : Array (Option Value)} {oc1 oc2 oc3 oc4 oc5 oc6 oc7 oc8 oc9 oc10 kV1 kV2 kV3 kV4 kV5 kV6 kV7 kV8 kV9 kV10 dc1 dc2 dc3 dc4 dc5 dc6 dc7 dc8 dc9 dc10 pm1 pm2 pm3 pm4 pm5 pm6 pm7 pm8 pm9 pm10 cd1 cd2 cd3 cd4 cd5 cd6 cd7 cd8 cd9 cd10 ct1 ct2 ct3 ct4 ct5 ct6 ct7 ct8 ct9 ct10 : Value}
    (a1 : PySem.W.nsIn K mainGlobals "_law_bag" = some (some (.ref f1))) (l1 : K.lookup f1 = some ⟨oc1, od1, .func (PySem.W.fnOf "_law_bag" "_law_bag" (defArgs sBag) (defBody sBag) (defScope sBag) .none kV1 dc1 pm1 an1 cd1 ct1), sl1⟩) (c1 : PySem.W.codeIn K cd1 "_law_bag" = true) (k1 : PySem.W.keepIn K (.ref f1) = true)
    (a2 : PySem.W.nsIn K mainGlobals "_law_pull" = some (some (.ref f2))) (l2 : K.lookup f2 = some ⟨oc2, od2, .func (PySem.W.fnOf "_law_pull" "_law_pull" (defArgs sPull) (defBody sPull) (defScope sPull) .none kV2 dc2 pm2 an2 cd2 ct2), sl2⟩) (c2 : PySem.W.codeIn K cd2 "_law_pull" = true) (k2 : PySem.W.keepIn K (.ref f2) = true)
    (a3 : PySem.W.nsIn K mainGlobals "_law_of" = some (some (.ref f3))) (l3 : K.lookup f3 = some ⟨oc3, od3, .func (PySem.W.fnOf "_law_of" "_law_of" (defArgs sOf) (defBody sOf) (defScope sOf) .none kV3 dc3 pm3 an3 cd3 ct3), sl3⟩) (c3 : PySem.W.codeIn K cd3 "_law_of" = true) (k3 : PySem.W.keepIn K (.ref f3) = true)
    (a4 : PySem.W.nsIn K mainGlobals "_law_mixed" = some (some (.ref f4))) (l4 : K.lookup f4 = some ⟨oc4, od4, .func (PySem.W.fnOf "_law_mixed" "_law_mixed" (defArgs sMixed) (defBody sMixed) (defScope sMixed) .none kV4 dc4 pm4 an4 cd4 ct4), sl4⟩) (c4 : PySem.W.codeIn K cd4 "_law_mixed" = true) (k4 : PySem.W.keepIn K (.ref f4) = true)
    (a5 : PySem.W.nsIn K mainGlobals "_law_same" = some (some (.ref f5))) (l5 : K.lookup f5 = some ⟨oc5, od5, .func (PySem.W.fnOf "_law_same" "_law_same" (defArgs sSame) (defBody sSame) (defScope sSame) .none kV5 dc5 pm5 an5 cd5 ct5), sl5⟩) (c5 : PySem.W.codeIn K cd5 "_law_same" = true) (k5 : PySem.W.keepIn K (.ref f5) = true)
    (a6 : PySem.W.nsIn K mainGlobals "_law_letters" = some (some (.ref f6))) (l6 : K.lookup f6 = some ⟨oc6, od6, .func (PySem.W.fnOf "_law_letters" "_law_letters" (defArgs sLets) (defBody sLets) (defScope sLets) .none kV6 dc6 pm6 an6 cd6 ct6), sl6⟩) (c6 : PySem.W.codeIn K cd6 "_law_letters" = true) (k6 : PySem.W.keepIn K (.ref f6) = true)
    (a7 : PySem.W.nsIn K mainGlobals "turn" = some (some (.ref f7))) (l7 : K.lookup f7 = some ⟨oc7, od7, .func (PySem.W.fnOf "turn" "turn" (defArgs sTurn) (defBody sTurn) (defScope sTurn) .none kV7 dc7 pm7 an7 cd7 ct7), sl7⟩) (c7 : PySem.W.codeIn K cd7 "turn" = true) (k7 : PySem.W.keepIn K (.ref f7) = true)
    (a8 : PySem.W.nsIn K mainGlobals "sum_of" = some (some (.ref f8))) (l8 : K.lookup f8 = some ⟨oc8, od8, .func (PySem.W.fnOf "sum_of" "sum_of" (defArgs sSumOf) (defBody sSumOf) (defScope sSumOf) .none kV8 dc8 pm8 an8 cd8 ct8), sl8⟩) (c8 : PySem.W.codeIn K cd8 "sum_of" = true) (k8 : PySem.W.keepIn K (.ref f8) = true)
    (a9 : PySem.W.nsIn K mainGlobals "_law_sum" = some (some (.ref f9))) (l9 : K.lookup f9 = some ⟨oc9, od9, .func (PySem.W.fnOf "_law_sum" "_law_sum" (defArgs sLSum) (defBody sLSum) (defScope sLSum) .none kV9 dc9 pm9 an9 cd9 ct9), sl9⟩) (c9 : PySem.W.codeIn K cd9 "_law_sum" = true) (k9 : PySem.W.keepIn K (.ref f9) = true)
    (a10 : PySem.W.nsIn K mainGlobals "law" = some (some (.ref f10))) (l10 : K.lookup f10 = some ⟨oc10, od10, .func (PySem.W.fnOf "law" "law" (defArgs sLaw) (defBody sLaw) (defScope sLaw) .none kV10 dc10 pm10 an10 cd10 ct10), sl10⟩) (c10 : PySem.W.codeIn K cd10 "law" = true) (k10 : PySem.W.keepIn K (.ref f10) = true)
    (z1 : PySem.W.nsIn K mainGlobals "isinstance" = some none)    (z2 : PySem.W.nsIn K mainGlobals "dict" = some none)    (z3 : PySem.W.nsIn K mainGlobals "list" = some none)    (z4 : PySem.W.nsIn K mainGlobals "tuple" = some none)
    (z5 : PySem.W.nsIn K mainGlobals "bool" = some none)    (z6 : PySem.W.nsIn K mainGlobals "int" = some none)    (z7 : PySem.W.nsIn K mainGlobals "str" = some none)    (z8 : PySem.W.nsIn K mainGlobals "len" = some none)
    (z9 : PySem.W.nsIn K mainGlobals "all" = some none)    (z10 : PySem.W.nsIn K mainGlobals "zip" = some none)    (z11 : PySem.W.nsIn K mainGlobals "sorted" = some none)    (z12 : PySem.W.nsIn K mainGlobals "set" = some none)
    (z13 : PySem.W.nsIn K mainGlobals "range" = some none) :
    ∃ fd : FuncData, (∀ (s : Shared) (v : Value), BindsTo s fd ⟨[v], []⟩ [("_law_script", v)]) ∧ ∀ base : Heap, K.In base → base.Ns mainGlobals mg → FnOk l.prog w K mg base CX0 3 fa fd ["_law_script"] (spLaw K) := by
  have e := hfa.symm.trans (PySem.W.mg_of X G a10)
  cases e
  have F1 := fun_mk (st := sBag) l1 c1 k1
  have b1 := F1.binds (ps := ["_law_script"]) fun _ _ _ _ _ _ us hl => match us, hl with | [_], _ => rfl
  have g1 := PySem.W.mg_of X G a1
  have F2 := fun_mk (st := sPull) l2 c2 k2
  have b2 := F2.binds (ps := ["_law_bag_here", "_law_many"]) fun _ _ _ _ _ _ us hl => match us, hl with | [_, _], _ => rfl
  have g2 := PySem.W.mg_of X G a2
  have F3 := fun_mk (st := sOf) l3 c3 k3
  have b3 := F3.binds (ps := ["_law_bag_here", "_law_things"]) fun _ _ _ _ _ _ us hl => match us, hl with | [_, _], _ => rfl
  have g3 := PySem.W.mg_of X G a3
  have F4 := fun_mk (st := sMixed) l4 c4 k4
  have b4 := F4.binds (ps := ["_law_bag_here", "_law_things"]) fun _ _ _ _ _ _ us hl => match us, hl with | [_, _], _ => rfl
  have g4 := PySem.W.mg_of X G a4
  have F5 := fun_mk (st := sSame) l5 c5 k5
  have b5 := F5.binds (ps := ["_law_found", "_law_due"]) fun _ _ _ _ _ _ us hl => match us, hl with | [_, _], _ => rfl
  have g5 := PySem.W.mg_of X G a5
  have F6 := fun_mk (st := sLets) l6 c6 k6
  have b6 := F6.binds (ps := []) fun _ _ _ _ _ _ us hl => match us, hl with | [], _ => rfl
  have g6 := PySem.W.mg_of X G a6
  have F7 := fun_mk (st := sTurn) l7 c7 k7
  have b7 := F7.binds (ps := ["ones", "text"]) fun _ _ _ _ _ _ us hl => match us, hl with | [_, _], _ => rfl
  have g7 := PySem.W.mg_of X G a7
  have F8 := fun_mk (st := sSumOf) l8 c8 k8
  have b8 := F8.binds (ps := ["lists"]) fun _ _ _ _ _ _ us hl => match us, hl with | [_], _ => rfl
  have g8 := PySem.W.mg_of X G a8
  have F9 := fun_mk (st := sLSum) l9 c9 k9
  have b9 := F9.binds (ps := ["_law_rows"]) fun _ _ _ _ _ _ us hl => match us, hl with | [_], _ => rfl
  have g9 := PySem.W.mg_of X G a9
  have F10 := fun_mk (st := sLaw) l10 c10 k10
  have m_isinstance := PySem.W.mg_none_of X G z1
  have m_dict := PySem.W.mg_none_of X G z2
  have m_list := PySem.W.mg_none_of X G z3
  have m_tuple := PySem.W.mg_none_of X G z4
  have m_bool := PySem.W.mg_none_of X G z5
  have m_int := PySem.W.mg_none_of X G z6
  have m_str := PySem.W.mg_none_of X G z7
  have m_len := PySem.W.mg_none_of X G z8
  have m_all := PySem.W.mg_none_of X G z9
  have m_zip := PySem.W.mg_none_of X G z10
  have m_sorted := PySem.W.mg_none_of X G z11
  have m_set := PySem.W.mg_none_of X G z12
  have m_range := PySem.W.mg_none_of X G z13
  exact ⟨PySem.W.fnOf "law" "law" (defArgs sLaw) (defBody sLaw) (defScope sLaw) .none kV10 dc10 pm10 an10 cd10 ct10, fun s v => .of_eq rfl, fun base _ _ => ok_law F10 F1 b1 g1 F2 b2 g2 F3 b3 g3 F4 b4 g4 F5 b5 g5 F6 b6 g6 F7 b7 g7 F8 b8 g8 F9 b9 g9 ⟨m_isinstance, m_dict, m_list, m_tuple, m_bool, m_int, m_str, m_len, m_all, m_zip⟩ m_sorted m_set m_range⟩


end T44

open PySem PySem.W PyProof.Rows in
set_option maxRecDepth 100000 in
set_option maxHeartbeats 0 in
theorem PySem.Challenge.cw_threadmark_k44_sums_of_lists_holds : PySem.Challenge.rw_threadmark_k44_sums_of_lists.Holds := by
  w_on; o_law; k_head; (case hw => w_witness2)
  k_fill
  refine L2.walk_of (l := PySem.Challenge.rw_threadmark_k44_sums_of_lists) (n := 63) (k := 3) (x := "_law_script") (CX := fun _ => L2.CX0) (sp := fun w => Tm.spLaw _) rfl (by decide) rfl ⟨rfl, by decide, by decide⟩ (fun w h Y => PySem.W.kIn_of Y) ?F (fun _ _ a ns hl _ hS => ⟨a, ns, rfl, hS, hl, fun _ => rfl⟩) (fun _ _ _ _ _ h => h)
  case F =>
    intro w mg fa h KX G hmg
    refine' T44.all_mk KX G hmg ?a1 ?l1 ?c1 ?k1 ?a2 ?l2 ?c2 ?k2 ?a3 ?l3 ?c3 ?k3 ?a4 ?l4 ?c4 ?k4 ?a5 ?l5 ?c5 ?k5 ?a6 ?l6 ?c6 ?k6 ?a7 ?l7 ?c7 ?k7 ?a8 ?l8 ?c8 ?k8 ?a9 ?l9 ?c9 ?k9 ?a10 ?l10 ?c10 ?k10 ?z1 ?z2 ?z3 ?z4 ?z5 ?z6 ?z7 ?z8 ?z9 ?z10 ?z11 ?z12 ?z13
    (case a1 => k_is)
    (case l1 => k_is)
    (case c1 => k_is)
    (case k1 => k_is)
    (case a2 => k_is)
    (case l2 => k_is)
    (case c2 => k_is)
    (case k2 => k_is)
    (case a3 => k_is)
    (case l3 => k_is)
    (case c3 => k_is)
    (case k3 => k_is)
    (case a4 => k_is)
    (case l4 => k_is)
    (case c4 => k_is)
    (case k4 => k_is)
    (case a5 => k_is)
    (case l5 => k_is)
    (case c5 => k_is)
    (case k5 => k_is)
    (case a6 => k_is)
    (case l6 => k_is)
    (case c6 => k_is)
    (case k6 => k_is)
    (case a7 => k_is)
    (case l7 => k_is)
    (case c7 => k_is)
    (case k7 => k_is)
    (case a8 => k_is)
    (case l8 => k_is)
    (case c8 => k_is)
    (case k8 => k_is)
    (case a9 => k_is)
    (case l9 => k_is)
    (case c9 => k_is)
    (case k9 => k_is)
    (case a10 => k_is)
    (case l10 => k_is)
    (case c10 => k_is)
    (case k10 => k_is)
    (case z1 => k_is)
    (case z2 => k_is)
    (case z3 => k_is)
    (case z4 => k_is)
    (case z5 => k_is)
    (case z6 => k_is)
    (case z7 => k_is)
    (case z8 => k_is)
    (case z9 => k_is)
    (case z10 => k_is)
    (case z11 => k_is)
    (case z12 => k_is)
    (case z13 => k_is)

