/- The fields of a statement: the plain reader, and how a statement lies in memory. The readers of statements' fields. Statements: the plain reader of rows of statements, and rows of statements in memory. What the reference's braced does. Where append writes: in the row itself, or in a new block. The map of readers; blocks kept beside the parser's own. The parser with its statements; block and alternative. -/
import Derived.Test.YtlpgafgiljffhaaGreatDoorVf
import Derived.Test.YtlpgafgiljffhaaGreatDoorYb
import Derived.Test.YtlpgafgiljffhaaGreatDoorVe
import Derived.MapKept
namespace Go.Proofs.YtlpgafgiljffhaaGreatDoor
open Go.RowKit
structure St where
  kind : Int
  reg : ByteArray
  loc : ByteArray
  e : List Nd
  f : List Nd
  ne : Bool
  body : Int
  els : Int
  pl : Int
inductive FRes where
  | ok (x : St) (j : Nat)
  | err (k a : Nat)
noncomputable def fld (l : List Tok) : List UInt8 → Nat → St → FRes
  | [], i, x => .ok x i
  | c :: cs, i, x =>
    if c = 114 then (if nmAt l i then fld l cs (i + 1) { x with reg := txt l i } else .err (refK l i).1 (refK l i).2)
    else if c = 108 then (if nmAt l i then fld l cs (i + 1) { x with loc := txt l i } else .err (refK l i).1 (refK l i).2)
    else if c = 101 then (match plainR l i with
      | .err k a => .err k a
      | .ok y j => fld l cs j { x with e := y.flat })
    else if c = 102 then (match plainR l i with
      | .err k a => .err k a
      | .ok y j => fld l cs j { x with f := y.flat })
    else if c = 113 then (if sgAt l i [33, 61] then fld l cs (i + 1) { x with ne := true } else if sgAt l i [61, 61] then fld l cs (i + 1) { x with ne := false } else .err (refK l i).1 (refK l i).2)
    else if sgAt l i [c] then fld l cs (i + 1) x else .err (refK l i).1 (refK l i).2
def St.cells (x : St) (ve vf : Value) : Array Value := #[.int .i64 x.kind, .string x.reg, .string x.loc, ve, vf, .bool x.ne, .int .i64 x.body, .int .i64 x.els, .int .i64 x.pl]
def BlkS (W : World) (b : Nat) (x : St) (ve vf : Value) : Prop := W.heap[b]? = some (.cells (x.cells ve vf) 61 (0, 0))
theorem BlkS.lt {W : World} {b : Nat} {x : St} {ve vf : Value} (h : BlkS W b x ve vf) : b < W.heap.size := (Array.getElem?_eq_some_iff.1 h).1
theorem BlkS.below {W W' : World} {b B : Nat} {x : St} {ve vf : Value} (h : BlkS W b x ve vf) (hb : Below B W W') (hlt : b < B) : BlkS W' b x ve vf := by
  unfold BlkS at *; rw [hb.block b hlt]; exact h
theorem BlkS.under {W W' : World} {b : Nat} {x : St} {ve vf : Value} (h : BlkS W b x ve vf) (hb : Below W.heap.size W W') : BlkS W' b x ve vf := h.below hb h.lt
theorem BlkS.facts {W : World} {b : Nat} {x : St} {ve vf : Value} (h : BlkS W b x ve vf) :
    (W.cell? ⟨b, 0, none⟩ = some (.int .i64 x.kind) ∧ W.cell? ⟨b, 1, none⟩ = some (.string x.reg) ∧ W.cell? ⟨b, 2, none⟩ = some (.string x.loc) ∧ W.cell? ⟨b, 3, none⟩ = some ve ∧ W.cell? ⟨b, 4, none⟩ = some vf ∧ W.cell? ⟨b, 5, none⟩ = some (.bool x.ne) ∧ W.cell? ⟨b, 6, none⟩ = some (.int .i64 x.body) ∧ W.cell? ⟨b, 7, none⟩ = some (.int .i64 x.els) ∧ W.cell? ⟨b, 8, none⟩ = some (.int .i64 x.pl)) ∧
    (∀ o, W.frozen? ⟨b, o, none⟩ = false) := by
  unfold BlkS St.cells at h
  constructor
  · simp [World.cell?, h]
  · intro o
    simp [World.frozen?, h]
theorem BlkS.set {w : World} {b : Nat} {x : St} {ve vf : Value} (h : BlkS w b x ve vf) :
    (∀ u, BlkS (w.setCell ⟨b, 1, none⟩ (.string u)) b { x with reg := u } ve vf) ∧ (∀ u, BlkS (w.setCell ⟨b, 2, none⟩ (.string u)) b { x with loc := u } ve vf) ∧ (∀ u l, BlkS (w.setCell ⟨b, 3, none⟩ u) b { x with e := l } u vf) ∧ (∀ u l, BlkS (w.setCell ⟨b, 4, none⟩ u) b { x with f := l } ve u) ∧ (∀ u, BlkS (w.setCell ⟨b, 5, none⟩ (.bool u)) b { x with ne := u } ve vf) := by
  unfold BlkS St.cells at h
  have hlt := (Array.getElem?_eq_some_iff.1 h).1
  have hg := (Array.getElem?_eq_some_iff.1 h).2
  refine ⟨fun u => ?_, fun u => ?_, fun u l => ?_, fun u l => ?_, fun u => ?_⟩ <;> simp [BlkS, St.cells, World.setCell, Array.getElem?_modify, h]
theorem BlkS.other {w : World} {b : Nat} {x : St} {ve vf : Value} (h : BlkS w b x ve vf) (g o : Nat) (hg : b ≠ g) (u : Value) : BlkS (w.setCell ⟨g, o, none⟩ u) b x ve vf := by
  unfold BlkS at *; rw [Below.heap_setCell _ _ _ _ (by exact hg)]; exact h
abbrev set9 (w : World) (b : Nat) (u0 u1 u2 u3 u4 u5 u6 u7 u8 : Value) : World := ((((((((w.setCell ⟨b, 0, none⟩ u0).setCell ⟨b, 1, none⟩ u1).setCell ⟨b, 2, none⟩ u2).setCell ⟨b, 3, none⟩ u3).setCell ⟨b, 4, none⟩ u4).setCell ⟨b, 5, none⟩ u5).setCell ⟨b, 6, none⟩ u6).setCell ⟨b, 7, none⟩ u7).setCell ⟨b, 8, none⟩ u8
theorem BlkS.set9 {w : World} {b : Nat} {y : St} {ye yf : Value} (h : BlkS w b y ye yf) (x : St) (ve vf : Value) :
    BlkS (set9 w b (.int .i64 x.kind) (.string x.reg) (.string x.loc) ve vf (.bool x.ne) (.int .i64 x.body) (.int .i64 x.els) (.int .i64 x.pl)) b x ve vf := by
  unfold BlkS St.cells at h
  have hlt := (Array.getElem?_eq_some_iff.1 h).1
  have hg := (Array.getElem?_eq_some_iff.1 h).2
  simp [BlkS, St.cells, World.setCell, Array.getElem?_modify, h]
theorem below_set9 {B b : Nat} {w w' : World} (h : Below B w w') (hb : B ≤ b) (u0 u1 u2 u3 u4 u5 u6 u7 u8 : Value) : Below B w (set9 w' b u0 u1 u2 u3 u4 u5 u6 u7 u8) :=
  ((((((((h.setCell (p := ⟨b, 0, none⟩) hb _).setCell (p := ⟨b, 1, none⟩) hb _).setCell (p := ⟨b, 2, none⟩) hb _).setCell (p := ⟨b, 3, none⟩) hb _).setCell (p := ⟨b, 4, none⟩) hb _).setCell (p := ⟨b, 5, none⟩) hb _).setCell (p := ⟨b, 6, none⟩) hb _).setCell (p := ⟨b, 7, none⟩) hb _).setCell (p := ⟨b, 8, none⟩) hb _
theorem own_set9 {w : World} {B b e size n : Nat} {v : Value} {xs : List Value} (h : w.ownsRow B e size v n xs) (hb : b < B) (u0 u1 u2 u3 u4 u5 u6 u7 u8 : Value) : (set9 w b u0 u1 u2 u3 u4 u5 u6 u7 u8).ownsRow B e size v n xs :=
  ownsRow_setCell_below (ownsRow_setCell_below (ownsRow_setCell_below (ownsRow_setCell_below (ownsRow_setCell_below (ownsRow_setCell_below (ownsRow_setCell_below (ownsRow_setCell_below (ownsRow_setCell_below h hb _) hb _) hb _) hb _) hb _) hb _) hb _) hb _) hb _
theorem results_flds {fn : Func} {p a b c : Tmp} (h : fn.results = #[.cell p 61, .tmp a, .tmp b, .tmp c]) (tmps : Array Value) (w : World) (r : Nat) (x : St) (ve vf va vb vc : Value) (hp : tmps.getD p undef = .pointer (some ⟨r, 0, none⟩)) (ha : tmps.getD a undef = va) (hb : tmps.getD b undef = vb) (hc : tmps.getD c undef = vc) (hs : BlkS w r x ve vf) :
    (results fn tmps).run Tryz.prog w = .ok (.tuple #[.agg (x.cells ve vf), va, vb, vc]) w := by
  obtain ⟨⟨y0, y1, y2, y3, y4, y5, y6, y7, y8⟩, _⟩ := hs.facts
  have hp2 : tmps[p]?.getD undef = .pointer (some ⟨r, 0, none⟩) := by simpa using hp
  have ha2 : tmps[a]?.getD undef = va := by simpa using ha
  have hb2 : tmps[b]?.getD undef = vb := by simpa using hb
  have hc2 : tmps[c]?.getD undef = vc := by simpa using hc
  simp only [results, h]
  simp [hp2, ha2, hb2, hc2, go_sem, y0, y1, y2, y3, y4, y5, y6, y7, y8, St.cells]
def FAns (r : FRes) (w : World) (e : Ending) (w' : World) : Prop := match r with
  | .err k a => ∃ (x : St) (ve vf : Value), e = .returned (.tuple #[.agg (x.cells ve vf), .int .i64 0, .int .i64 k, .int .i64 a]) ∧ w'.ownsRow w.heap.size 65 5 ve x.e.length (rowN x.e) ∧ w'.ownsRow w.heap.size 65 5 vf x.f.length (rowN x.f) ∧ Below w.heap.size w w'
  | .ok x j => ∃ ve vf, e = .returned (.tuple #[.agg (x.cells ve vf), .int .i64 j, .int .i64 0, .int .i64 0]) ∧ w'.ownsRow w.heap.size 65 5 ve x.e.length (rowN x.e) ∧ w'.ownsRow w.heap.size 65 5 vf x.f.length (rowN x.f) ∧ Below w.heap.size w w'
def st0 (k : Int) (pl : Int) : St := ⟨k, ⟨#[]⟩, ⟨#[]⟩, [], [], false, 0, 0, pl⟩
end Go.Proofs.YtlpgafgiljffhaaGreatDoor

namespace Go.Proofs.YtlpgafgiljffhaaGreatDoor
open Go.RowKit
theorem StrR.new (w : World) (s : ByteArray) : StrR (w.alloc (.cells #[.string s] 9)) w.heap.size s := heap_alloc_new w _
theorem StrR.alloc {w : World} {g : Nat} {s : ByteArray} (h : StrR w g s) (u : Obj) : StrR (w.alloc u) g s := h.below ((Below.refl _ _).alloc (Nat.le_refl _) _)
theorem StrR.drew {w : World} {g : Nat} {s : ByteArray} (h : StrR w g s) : StrR w.drew g s := h
theorem Keep.drew {b : Nat} {x w : World} (h : Keep b x w) : Keep b x w.drew := h.drewN 1
structure Kp (w w' : World) : Prop where
  str : ∀ g s, StrR w g s → StrR w' g s
  row : ∀ B n v xs, w.ownsRow B 65 5 v n xs → w'.ownsRow B 65 5 v n xs
theorem BlkS.keep {w w' : World} {b r : Nat} {x : St} {ve vf : Value} (h : BlkS w b x ve vf) (hk : Keep r w w') (hb : b ≠ r) : BlkS w' b x ve vf := by
  unfold BlkS at *; rw [hk.block b (BlkS.lt h) hb]; exact h
end Go.Proofs.YtlpgafgiljffhaaGreatDoor

namespace Go.Proofs.YtlpgafgiljffhaaGreatDoor
open Go.RowKit
inductive SRes where
  | ok (xs : List St) (j : Nat)
  | err (k a : Nat)
def elseAt (l : List Tok) (j : Nat) : Bool := decide ((tokO l j).1 = 1) && ((tokO l j).2.1 == [101, 108, 115, 101])
def brc (L : Nat → Nat → Option SRes) (l : List Tok) (inn i : Nat) : Option SRes :=
  if sgAt l i [123] then
    if 30 ≤ inn then some (.err 7 (plc l i)) else
    match L (inn + 1) (i + 1) with
    | none => none
    | some (.err k a) => some (.err k a)
    | some (.ok b j) => if sgAt l j [125] then some (.ok b (j + 1)) else some (.err (refK l j).1 (refK l j).2)
  else some (.err (refK l i).1 (refK l i).2)
noncomputable def lst (l : List Tok) : Nat → Nat → Nat → Option SRes
  | 0, _, _ => none
  | f + 1, inn, i =>
    if i < l.length ∧ sgAt l i [125] = false then
      if kindL l i = 0 then some (.err 5 (plc l i)) else
      match fld l (formL (kindL l i)) (i + 1) (st0 (kindL l i : Nat) (plc l i : Nat)) with
      | .err k a => some (.err k a)
      | .ok x j =>
        match (if blkB (kindL l i) then brc (lst l f) l inn j else some (.ok [] j)) with
        | none => none
        | some (.err k a) => some (.err k a)
        | some (.ok b j2) =>
          match (if kindL l i = 10 ∧ elseAt l j2 = true then brc (lst l f) l inn (j2 + 1) else some (.ok [] j2)) with
          | none => none
          | some (.err k a) => some (.err k a)
          | some (.ok o j3) =>
            match lst l f inn j3 with
            | none => none
            | some (.err k a) => some (.err k a)
            | some (.ok r j4) => some (.ok ({ x with body := (b.length : Nat), els := (o.length : Nat) } :: (b ++ o ++ r)) j4)
    else some (.ok [] i)
abbrev SI := St × Value × Value
def cellsI (t : SI) : List Value := [.int .i64 t.1.kind, .string t.1.reg, .string t.1.loc, t.2.1, t.2.2, .bool t.1.ne, .int .i64 t.1.body, .int .i64 t.1.els, .int .i64 t.1.pl]
def rowS (l : List SI) : List Value := l.flatMap cellsI
theorem rowS_length (l : List SI) : (rowS l).length = l.length * 9 := by
  unfold rowS
  induction l with
  | nil => rfl
  | cons a l ih => simp only [List.flatMap_cons, List.length_append, ih, List.length_cons, cellsI, List.length_nil]; omega
theorem rowS_append (a b : List SI) : rowS (a ++ b) = rowS a ++ rowS b := by simp [rowS]
def SIn (w : World) (ts : List SI) : Prop := ∀ t ∈ ts, w.ownsRow 0 65 5 t.2.1 t.1.e.length (rowN t.1.e) ∧ w.ownsRow 0 65 5 t.2.2 t.1.f.length (rowN t.1.f)
theorem SIn.below {w w' : World} {ts : List SI} (h : SIn w ts) (hb : Below w.heap.size w w') : SIn w' ts := fun t ht => ⟨own_below (h t ht).1 hb, own_below (h t ht).2 hb⟩
theorem SIn.append {w : World} {a b : List SI} (ha : SIn w a) (hb : SIn w b) : SIn w (a ++ b) := fun t ht => by
  rcases List.mem_append.1 ht with h | h
  · exact ha t h
  · exact hb t h
theorem own_one {w : World} {B e size n : Nat} {v : Value} {xs : List Value} (h : w.ownsRow B e size v n xs) : v.oneCell' = true := by
  obtain ⟨ad, cap, rfl, _⟩ := own_shape h; rfl
theorem rowS_one {w : World} {l : List SI} (h : SIn w l) : ∀ u ∈ rowS l, u.oneCell' = true := by
  intro u hu
  unfold rowS at hu
  rw [List.mem_flatMap] at hu
  obtain ⟨t, ht, hu⟩ := hu
  have h1 := own_one (h t ht).1
  have h2 := own_one (h t ht).2
  simp only [cellsI, List.mem_cons, List.not_mem_nil, or_false] at hu
  rcases hu with rfl | rfl | rfl | rfl | rfl | rfl | rfl | rfl | rfl
  · rfl
  · rfl
  · rfl
  · exact h1
  · exact h2
  · rfl
  · rfl
  · rfl
  · rfl
def SOwn (w : World) (B : Nat) (v : Value) (xs : List St) : Prop := ∃ ts : List SI, ts.map (·.1) = xs ∧ w.ownsRow B 61 9 v ts.length (rowS ts) ∧ SIn w ts
theorem SOwn.below {w w' : World} {B : Nat} {v : Value} {xs : List St} (h : SOwn w B v xs) (hb : Below w.heap.size w w') : SOwn w' B v xs := by
  obtain ⟨ts, h1, h2, h3⟩ := h
  exact ⟨ts, h1, own_below h2 hb, h3.below hb⟩
theorem SOwn.mono {w : World} {B B' : Nat} {v : Value} {xs : List St} (h : SOwn w B v xs) (hB : B' ≤ B) : SOwn w B' v xs := by
  obtain ⟨ts, h1, h2, h3⟩ := h
  exact ⟨ts, h1, own_mono h2 hB, h3⟩
theorem SOwn.nil (w : World) (B : Nat) : SOwn w B (.slice none 0 0) [] := ⟨[], rfl, World.ownsRow_nil _ _ _ _, fun t ht => by cases ht⟩
theorem info49 : (Tryz.prog.info? 61).map (fun i => (i.zero, i.size, i.bytes)) = some (some (.agg #[.int .i64 0, .string ⟨#[]⟩, .string ⟨#[]⟩, .slice none 0 0, .slice none 0 0, .bool false, .int .i64 0, .int .i64 0, .int .i64 0]), 9, 120) := by kernel_rfl
theorem own_newS (w : World) (x : St) (ve vf : Value) : (w.alloc (.cells (x.cells ve vf) 61)).ownsRow w.heap.size 61 9 (.slice (some ⟨w.heap.size, 0, none⟩) 1 1) 1 (rowS [(x, ve, vf)]) :=
  ⟨rfl, .inr ⟨w.heap.size, 1, _, rfl, Nat.le_refl _, heap_alloc_new w _, Nat.le_refl _, by unfold maxLen; decide, rfl, rfl⟩⟩
def LAns (r : SRes) (w : World) (e : Ending) (w' : World) : Prop := match r with
  | .err k a => e = .returned (.tuple #[.slice none 0 0, .int .i64 0, .int .i64 k, .int .i64 a]) ∧ Below w.heap.size w w'
  | .ok xs j => ∃ v, e = .returned (.tuple #[v, .int .i64 j, .int .i64 0, .int .i64 0]) ∧ SOwn w' w.heap.size v xs ∧ Below w.heap.size w w'
end Go.Proofs.YtlpgafgiljffhaaGreatDoor

namespace Go.Proofs.YtlpgafgiljffhaaGreatDoor
open Go.RowKit
theorem refK_ne (l : List Tok) (i : Nat) : (refK l i).1 ≠ 0 := by
  unfold refK
  split <;> simp
theorem plain_out2 (l : List Tok) (i : Nat) (hi : i ≤ l.length) (hp : ∀ i, (tokO l i).2.2.2 + (tokO l i).2.1.length ≤ 200000) : match plainR l i with | .err k _ => k ≠ 0 | .ok _ j => i < j ∧ j ≤ l.length := by
  have h := parse_out' l i hi hp
  unfold plainR
  cases hq : parseR l i with
  | err k a => rw [hq] at h; exact h
  | ok e j =>
    rw [hq] at h
    obtain ⟨_, _, _, h1, h2⟩ := h
    show (match (if regsB e.flat then Res.ok e j else Res.err 5 (plc l i)) with | .err k _ => k ≠ 0 | .ok _ j => i < j ∧ j ≤ l.length)
    cases regsB e.flat with
    | true => exact ⟨h1, h2⟩
    | false => show 5 ≠ 0; decide
def FFit (L i : Nat) : FRes → Prop
  | .ok _ j => i ≤ j ∧ j ≤ L
  | .err k _ => k ≠ 0
theorem fld_fit (l : List Tok) (hp : ∀ i, (tokO l i).2.2.2 + (tokO l i).2.1.length ≤ 200000) : ∀ (cs : List UInt8) (i : Nat) (x : St), i ≤ l.length → FFit l.length i (fld l cs i x) := by
  intro cs
  induction cs with
  | nil => intro i x hi; exact ⟨Nat.le_refl _, hi⟩
  | cons c cs ih =>
    intro i x hi
    have step : ∀ j y, i ≤ j → j ≤ l.length → FFit l.length i (fld l cs j y) := by
      intro j y h1 h2
      have h := ih j y h2
      cases hf : fld l cs j y with
      | ok z k => rw [hf] at h; exact ⟨Nat.le_trans h1 h.1, h.2⟩
      | err k a => rw [hf] at h; exact h
    have hpo := plain_out2 l i hi hp
    unfold fld
    repeat' split
    · have := nmAt_lt (by assumption); exact step _ _ (by omega) (by omega)
    · exact refK_ne _ _
    · have := nmAt_lt (by assumption); exact step _ _ (by omega) (by omega)
    · exact refK_ne _ _
    · rename_i k a h; rw [h] at hpo; exact hpo
    · rename_i y j h; rw [h] at hpo; exact step _ _ (by omega) hpo.2
    · rename_i k a h; rw [h] at hpo; exact hpo
    · rename_i y j h; rw [h] at hpo; exact step _ _ (by omega) hpo.2
    · have := sgAt_lt (by assumption); exact step _ _ (by omega) (by omega)
    · have := sgAt_lt (by assumption); exact step _ _ (by omega) (by omega)
    · exact refK_ne _ _
    · have := sgAt_lt (by assumption); exact step _ _ (by omega) (by omega)
    · exact refK_ne _ _
def SFit (L i : Nat) : SRes → Prop
  | .ok xs j => i ≤ j ∧ j ≤ L ∧ xs.length ≤ j - i
  | .err k _ => k ≠ 0
theorem brc_fit (l : List Tok) (L : Nat → Nat → Option SRes) (inn i : Nat) (r : SRes) (_hi : i ≤ l.length) (hL : ∀ inn' i' r', i' ≤ l.length → L inn' i' = some r' → SFit l.length i' r') (h : brc L l inn i = some r) : SFit l.length i r := by
  unfold brc at h
  by_cases h1 : sgAt l i [123] = true
  · rw [if_pos h1] at h
    have hlt := sgAt_lt h1
    by_cases h2 : 30 ≤ inn
    · rw [if_pos h2] at h; cases h; show 7 ≠ 0; decide
    · rw [if_neg h2] at h
      cases h3 : L (inn + 1) (i + 1) with
      | none => rw [h3] at h; cases h
      | some r3 =>
        rw [h3] at h
        have hf := hL _ _ _ (by omega) h3
        cases r3 with
        | err k a => cases h; exact hf
        | ok b j =>
          obtain ⟨f1, f2, f3⟩ := hf
          by_cases h4 : sgAt l j [125] = true
          · have := sgAt_lt h4
            simp only [if_pos h4] at h
            cases h
            exact ⟨by omega, by omega, by omega⟩
          · simp only [if_neg h4] at h
            cases h
            exact refK_ne _ _
  · rw [if_neg h1] at h; cases h; exact refK_ne _ _
set_option maxRecDepth 100000 in
set_option maxHeartbeats 4000000 in
theorem rbraced_any (l : List Tok) (v : Value) (i inn : Nat) (L : Nat → Nat → Option SRes) (r : SRes) (w : World) (hx : RCtx l v w) (hinn : inn ≤ 30) (hr : brc L l inn i = some r)
    (hL : ∀ i' r', i' ≤ l.length → L (inn + 1) i' = some r' → SFit l.length i' r' ∧ ∀ W, RCtx l v W → Calls Tryz.prog 113 #[v, .int .i64 i', .int .i64 ((inn : Int) + 1)] W (LAns r' W)) :
    Calls Tryz.prog 127 #[v, .int .i64 i, .int .i64 inn] w (LAns r w) := by
  have HX := Lib.hid hx
  have hlen := hx.hn
  obtain ⟨ad0, cap0, rfl, hj0⟩ := hx.ht
  clear hj0
  obtain ⟨N, hN⟩ : ∃ N, N = l.length := ⟨_, rfl⟩
  have HN := Lib.hid hN
  rw [← hN] at HX hlen hL ⊢
  clear hx hN
  unfold brc at hr
  cases h1 : sgAt l i [123] with
  | false =>
    rw [if_neg (by rw [h1]; decide)] at hr
    cases hr
    have HI := Lib.hid (ris_any l _ i ⟨#[123]⟩ w HX.out.ht HX.out.hn false h1)
    clear h1 hL
    go_enter Tryz.func127, Tryz.ntmps127
    go_wp2_with (first | (go_at_call 83; refine HI.out.mono ?_; rintro e w4 ⟨rfl, rfl⟩) | (go_at_call 82; refine (rwrong_any l _ i _ HX.out).mono ?_; rintro e w5 ⟨rfl, hb5⟩))
    refine bodyPost_ret (v := .tuple #[.slice none 0 0, .int .i64 0, .int .i64 (refK l i).1, .int .i64 (refK l i).2]) (by simp [results, Tryz.results127, go_sem]) rfl ⟨rfl, hb5⟩
  | true =>
    rw [if_pos h1] at hr
    have hil : i < l.length := sgAt_lt h1
    have HI := Lib.hid (ris_any l _ i ⟨#[123]⟩ w HX.out.ht HX.out.hn true h1)
    obtain ⟨gt, rfl, hgt⟩ : ∃ gt, ad0 = some ⟨gt, 0, none⟩ ∧ gt < w.heap.size := by
      obtain ⟨ad', cap', hv, hc⟩ := HX.out.ht
      obtain ⟨g', hg', hl', _⟩ := hc i hil
      cases hv
      exact ⟨g', hg', hl'⟩
    have hiN : i < N := by have := HN.out; omega
    by_cases h30 : 30 ≤ inn
    · rw [if_pos h30] at hr
      cases hr
      obtain ⟨_, _, _, c3⟩ := (HX.out.ht.at2 rfl hil : _ ∧ _ ∧ _ ∧ _)
      obtain ⟨tp, htp⟩ : ∃ t, t = plc l i := ⟨_, rfl⟩
      rw [← htp] at c3 ⊢
      clear h1 hL htp
      go_enter Tryz.func127, Tryz.ntmps127
      go_wp2_with (go_at_call 83; refine HI.out.mono ?_; rintro e w4 ⟨rfl, rfl⟩)
      go_quiet (fail)
      go_wp2
      refine bodyPost_ret (v := .tuple #[.slice none 0 0, .int .i64 0, .int .i64 7, .int .i64 tp]) (by simp [results, Tryz.results127, go_sem]) rfl ⟨rfl, below_drewN (Below.refl _ _) _⟩
    · rw [if_neg h30] at hr
      cases h3 : L (inn + 1) (i + 1) with
      | none => rw [h3] at hr; cases hr
      | some r3 =>
        rw [h3] at hr
        obtain ⟨hf, hc⟩ := hL (i + 1) r3 (by omega) h3
        have HC : Hid (Calls Tryz.prog 113 #[.slice (some ⟨gt, 0, none⟩) N cap0, .int .i64 ((i : Int) + 1), .int .i64 ((inn : Int) + 1)] w (LAns r3 w)) := hc w HX.out
        clear h1 hL hc h3
        cases r3 with
        | err k a =>
          cases hr
          have hk : k ≠ 0 := hf
          have q1 : ((k : Int) != 0) = true := by simp; omega
          clear hf hk
          go_enter Tryz.func127, Tryz.ntmps127
          go_wp2_with (go_at_call 83; refine HI.out.mono ?_; rintro e w4 ⟨rfl, rfl⟩)
          refine HC.out.mono ?_
          rintro e w4 ⟨rfl, hb4⟩
          go_wp2
          refine bodyPost_ret (v := .tuple #[.slice none 0 0, .int .i64 0, .int .i64 k, .int .i64 a]) (by simp [results, Tryz.results127, go_sem]) rfl ⟨rfl, hb4⟩
        | ok b j =>
          obtain ⟨f1, f2, f3⟩ := hf
          have hjN : j ≤ N := by have := HN.out; omega
          cases h4 : sgAt l j [125] with
          | true =>
            simp only [h4, if_true] at hr
            cases hr
            have H4 := Lib.hid h4
            clear h4 f1 f2 f3
            go_enter Tryz.func127, Tryz.ntmps127
            go_wp2_with (go_at_call 83; refine HI.out.mono ?_; rintro e w4 ⟨rfl, rfl⟩)
            refine HC.out.mono ?_
            rintro e w4 ⟨vb, rfl, hs, hb4⟩
            have HS := Lib.hid hs
            have HI2 := Lib.hid (ris_any l _ j ⟨#[125]⟩ w4 (HX.out.below hb4).ht HX.out.hn true H4.out)
            clear hs
            go_wp2_with (go_at_call 83; refine HI2.out.mono ?_; rintro e w5 ⟨rfl, rfl⟩)
            refine bodyPost_ret (v := .tuple #[vb, .int .i64 ((j : Int) + 1), .int .i64 0, .int .i64 0]) (by simp [results, Tryz.results127, go_sem]) rfl ⟨vb, rfl, HS.out, hb4⟩
          | false =>
            simp only [h4, Bool.false_eq_true, if_false] at hr
            cases hr
            have H4 := Lib.hid h4
            clear h4 f1 f2 f3
            go_enter Tryz.func127, Tryz.ntmps127
            go_wp2_with (go_at_call 83; refine HI.out.mono ?_; rintro e w4 ⟨rfl, rfl⟩)
            refine HC.out.mono ?_
            rintro e w4 ⟨vb, rfl, hs, hb4⟩
            have HI2 := Lib.hid (ris_any l _ j ⟨#[125]⟩ w4 (HX.out.below hb4).ht HX.out.hn false H4.out)
            have HX4 := Lib.hid (HX.out.below hb4)
            clear hs
            go_wp2_with (first | (go_at_call 83; refine HI2.out.mono ?_; rintro e w5 ⟨rfl, rfl⟩) | (go_at_call 82; refine (rwrong_any l _ j _ HX4.out).mono ?_; rintro e w5 ⟨rfl, hb5⟩))
            refine bodyPost_ret (v := .tuple #[.slice none 0 0, .int .i64 0, .int .i64 (refK l j).1, .int .i64 (refK l j).2]) (by simp [results, Tryz.results127, go_sem]) rfl ⟨rfl, hb4.trans (hb5.mono hb4.size)⟩
end Go.Proofs.YtlpgafgiljffhaaGreatDoor

namespace Go.Proofs.YtlpgafgiljffhaaGreatDoor
open Go.RowKit
theorem append_where {P : Program} {w : World} (t ty e : TypeId) (i : TypeInfo) (z : Value) (ht : P.underlying t = some (.slice e)) (hi : P.info? e = some i) (hz : i.zero = some z)
    (base n : Nat) (v : Value) (xs : List Value) (hown : w.ownsRow base e i.size v n xs) (a : Addr) (m c : Nat) (news : List Value) (hl : news.length = m * i.size) (hnews : ∀ j u, news[j]? = some u → w.cell? (a.add j) = some u) (h1 : ∀ u ∈ news, u.oneCell' = true)
    (h63 : n + m ≤ maxLen) (hbytes : (n + m) * i.bytes ≤ 140737488355328) (hm : 0 < m ∨ v ≠ .slice none 0 0) (v' : Value) (w' : World) (hr : (Builtin.append_ #[t, t] ty #[v, .slice (some a) m c]).run P w = .ok v' w') :
    v'.ownBlock = v.ownBlock ∨ v'.ownBlock = some w.heap.size := by
  have hs : n + m ≤ 9223372036854775807 := by unfold maxLen at h63; omega
  rcases hown.2 with ⟨rfl, rfl⟩ | ⟨g, cap, cur, rfl, hbg, hg, hnc, hcm, hcs, htake⟩
  · have h := run_append_nil (P := P) w t ty e i z ht hi hz a m c news hl hnews (by rcases hm with h | h; exact h; exact absurd rfl h) (by omega) (by have hb := hbytes; simp only [Nat.zero_add] at hb; omega)
    rw [h] at hr
    cases hr
    exact .inr rfl
  · by_cases hroom : n + m ≤ cap
    · have hfit : n * i.size + news.length ≤ cur.size := by rw [hl, hcs, ← Nat.add_mul]; exact Nat.mul_le_mul_right _ hroom
      have h := run_append_room (P := P) w t ty e i ht hi g n cap cur hg a m c news hl hnews h1 hroom hfit
      rw [h] at hr
      cases hr
      exact .inl rfl
    · have h := run_append_grow (P := P) w t ty e i z ht hi hz ⟨g, 0, none⟩ n cap xs hown.1 (hown.cells (g := g) rfl) a m c news hl hnews (by omega) (by omega) (growslice_fits (by omega) hbytes)
      rw [h] at hr
      cases hr
      exact .inr rfl
theorem own_apart {w : World} {B B' n n' : Nat} {u v : Value} {xs ys : List Value} (h : w.ownsRow B 65 5 u n xs) (h' : w.ownsRow B' 61 9 v n' ys) : u.ownBlock = none ∨ u.ownBlock ≠ v.ownBlock := by
  rcases h.2 with ⟨rfl, _⟩ | ⟨g, cap, cur, rfl, _, hg, _⟩
  · exact .inl rfl
  · right
    rcases h'.2 with ⟨rfl, _⟩ | ⟨g', cap', cur', rfl, _, hg', _⟩
    · intro h0; cases h0
    · intro h0
      have e : g = g' := Option.some.inj h0
      rw [e, hg'] at hg
      cases hg
theorem append_sts2 {w : World} {ops : Array Oper} {rest : List Oper} {o : Oper} {a : Act} {Q : Exit → Act → World → Prop} (hgd : o.guard = none) (s x : Operand)
    (ho : o.op = .call { callee := .builtin .append, args := #[s, x], argTypes := #[41, 41] }) (base B n m : Nat) (v u : Value) (xs : List Value) (l : List SI) (hs : a.eval s = v) (hx : a.eval x = u)
    (hown : w.ownsRow base 61 9 v n xs) (hu : w.ownsRow B 61 9 u m (rowS l)) (hl : SIn w l) (hm : m = l.length) (hn : n + m ≤ 1000000) (hbase : base ≤ w.heap.size)
    (h : ∀ v' w', w'.ownsRow base 61 9 v' (n + m) (xs ++ rowS l) → w.grownBy w' v.ownBlock → (v'.ownBlock = v.ownBlock ∨ v'.ownBlock = some w.heap.size) → wpList Tryz.prog ops Q rest (a.put o.dst v') w') : wpList Tryz.prog ops Q (o :: rest) a w := by
  obtain ⟨i0, hi, hz0, hz1, hz2⟩ := info_parts info49
  have hc := @World.ownsRow.cells _ _ _ _ _ _ _ hu
  subst hm
  rcases hu.2 with ⟨rfl, h0⟩ | ⟨g, cap, cur, rfl, _⟩
  · obtain rfl := List.eq_nil_of_length_eq_zero h0
    refine wpList_append_own_none hgd s x 41 ho base 61 i0 9 Tryz.underlying41 hi v n xs hs hown hx ?_
    have := h v w
    rw [show rowS [] = [] from rfl, List.append_nil] at this
    exact this hown ⟨rfl, rfl, rfl, Nat.le_refl _, fun _ _ _ => rfl⟩ (.inl rfl)
  · have h63 : n + l.length ≤ maxLen := by unfold maxLen; omega
    have hby : (n + l.length) * 120 ≤ 140737488355328 := by omega
    obtain ⟨v', w', hr, k1, k2, k3⟩ := run_append_own (P := Tryz.prog) w base 41 o.type 61 i0 _ 9 120 Tryz.underlying41 hi hz0 hz1 hz2 rfl (by decide) v n xs hown ⟨g, 0, none⟩ l.length cap (rowS l) (by rw [rowS_length]) (hc rfl) (rowS_one hl) h63 hby hbase
    have k4 : v'.ownBlock = v.ownBlock ∨ v'.ownBlock = some w.heap.size := by
      by_cases hv0 : v = .slice none 0 0 ∧ l.length = 0
      · rw [k3.2 hv0, hv0.1]; exact .inl rfl
      · exact append_where (P := Tryz.prog) 41 o.type 61 i0 _ Tryz.underlying41 hi hz0 base n v xs (by rw [hz1]; exact hown) ⟨g, 0, none⟩ l.length cap (rowS l) (by rw [hz1, rowS_length]) (hc rfl) (rowS_one hl) h63 (by rw [hz2]; exact hby) (by by_cases h0 : l.length = 0; exact .inr fun h => hv0 ⟨h, h0⟩; exact .inl (by omega)) v' w' hr
    refine wpList_plain hgd fun K hK => ?_
    unfold Oper.wp
    simp only [execOp, ho, resolve, invoke, builtin, Sem.run_bind, Sem.run_pure, Result.andThen_ok, List.map_toArray, List.map_cons, List.map_nil, hs, hx, hr]
    exact hK _ _ (h v' w' k1 k2 k4)
end Go.Proofs.YtlpgafgiljffhaaGreatDoor

namespace Go.Proofs.YtlpgafgiljffhaaGreatDoor
open Go.RowKit
def mkF : Nat → List (ByteArray × Value) → List MapEntry
  | _, [] => []
  | i, p :: r => { key := .string p.1, val := p.2, born := i } :: mkF (i + 1) r
def Mp (w : World) (m : Nat) (l : List (ByteArray × Value)) : Prop := w.heap[m]? = some (.map (mkF 0 l).toArray l.length)
theorem Mp.lt {w : World} {m : Nat} {l : List (ByteArray × Value)} (h : Mp w m l) : m < w.heap.size := (Array.getElem?_eq_some_iff.1 h).1
structure KeepD (r : Nat) (d : Option Nat) (w w' : World) : Prop where
  os : w'.os = w.os
  tape : w'.tape = w.tape
  output : w'.output = w.output
  size : w.heap.size ≤ w'.heap.size
  block : ∀ k, k < w.heap.size → k ≠ r → some k ≠ d → w'.heap[k]? = w.heap[k]?
def Plw (w : World) (d d' : Option Nat) : Prop := d' = d ∨ ∀ g, d' = some g → w.heap.size ≤ g
theorem Plw.refl (w : World) (d : Option Nat) : Plw w d d := .inl rfl
theorem KeepD.refl (r : Nat) (d : Option Nat) (w : World) : KeepD r d w w := ⟨rfl, rfl, rfl, Nat.le_refl _, fun _ _ _ _ => rfl⟩
theorem KeepD.trans {r : Nat} {d d1 : Option Nat} {x y z : World} (h : KeepD r d x y) (p : Plw x d d1) (k : KeepD r d1 y z) : KeepD r d x z :=
  ⟨k.os.trans h.os, k.tape.trans h.tape, k.output.trans h.output, Nat.le_trans h.size k.size, fun i hi hr hd => (k.block i (Nat.lt_of_lt_of_le hi h.size) hr (by
    rcases p with p | p
    · rw [p]; exact hd
    · intro e; have := p i e.symm; omega)).trans (h.block i hi hr hd)⟩
theorem Plw.trans {x y : World} {d d1 d2 : Option Nat} (p : Plw x d d1) (hs : x.heap.size ≤ y.heap.size) (q : Plw y d1 d2) : Plw x d d2 := by
  rcases q with q | q
  · rw [q]; exact p
  · exact .inr fun g hg => Nat.le_trans hs (q g hg)
theorem KeepD.cell {r : Nat} {d : Option Nat} {w w' : World} (h : KeepD r d w w') {p : Addr} (h1 : p.block < w.heap.size) (h2 : p.block ≠ r) (h3 : some p.block ≠ d) : w'.cell? p = w.cell? p := World.cell?_of_block (w := w) (h.block p.block h1 h2 h3)
end Go.Proofs.YtlpgafgiljffhaaGreatDoor

namespace Go.Proofs.YtlpgafgiljffhaaGreatDoor
open Go.RowKit
theorem SOwn.shape {w : World} {B : Nat} {v : Value} {xs : List St} (h : SOwn w B v xs) : ∃ ad cap, v = .slice ad xs.length cap := by
  obtain ⟨ts, h1, h2, _⟩ := h
  obtain ⟨ad, cap, h3, _⟩ := own_shape h2
  exact ⟨ad, cap, by rw [h3, ← h1, List.length_map]⟩
theorem Mp.keep {w w' : World} {m r : Nat} {l : List (ByteArray × Value)} (h : Mp w m l) (hk : Keep r w w') (hm : m ≠ r) : Mp w' m l := by
  unfold Mp at *; rw [hk.block m (Mp.lt h) hm]; exact h
section
variable {w0 w w' : World} {r bx m : Nat} {l : List Tok} {lv dv dv' : Value} {q q' : Pq} {o o' : Nat} {xs xs' : List St}
end
end Go.Proofs.YtlpgafgiljffhaaGreatDoor
