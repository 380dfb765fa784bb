/-
  THE WALK of the law TableMarks.
-/
import Derived.Test.YtaabdpfhpolcgaaBMarkT
namespace Go.Proofs.Ytaabdpfhpolcgaa
open Go.RowKit
set_option linter.unusedVariables false
set_option linter.unusedSimpArgs false
theorem heap_push {w : World} {b : Nat} {x : Obj} (h : w.heap[b]? = some x) (o : Obj) : (w.alloc o).heap[b]? = some x := (heap_alloc_old w o (R4.heap_lt h)).trans h
theorem lay_tmk (w : World) {k : Nat} (hk : k < 7) : TMk ((((((((((w.alloc (.cells #[.string ⟨#[204, 128]⟩, .string ⟨#[204, 129]⟩, .string ⟨#[204, 130]⟩, .string ⟨#[204, 131]⟩, .string ⟨#[204, 136]⟩, .string ⟨#[204, 138]⟩, .string ⟨#[204, 167]⟩] 9)).alloc (.cells #[.string ⟨#[65, 69, 73, 79, 85]⟩, .string ⟨#[65, 69, 73, 79, 85, 89]⟩, .string ⟨#[65, 69, 73, 79, 85]⟩, .string ⟨#[65, 78, 79]⟩, .string ⟨#[65, 69, 73, 79, 85]⟩, .string ⟨#[65]⟩, .string ⟨#[67]⟩] 9)).alloc (.cells #[.int .i64 192, .int .i64 200, .int .i64 204, .int .i64 210, .int .i64 217] 3)).alloc (.cells #[.int .i64 193, .int .i64 201, .int .i64 205, .int .i64 211, .int .i64 218, .int .i64 221] 3)).alloc (.cells #[.int .i64 194, .int .i64 202, .int .i64 206, .int .i64 212, .int .i64 219] 3)).alloc (.cells #[.int .i64 195, .int .i64 209, .int .i64 213] 3)).alloc (.cells #[.int .i64 196, .int .i64 203, .int .i64 207, .int .i64 214, .int .i64 220] 3)).alloc (.cells #[.int .i64 197] 3)).alloc (.cells #[.int .i64 199] 3)).alloc (.cells #[.slice (some ⟨w.heap.size + 1 + 1, 0, none⟩) 5 5, .slice (some ⟨w.heap.size + 1 + 1 + 1, 0, none⟩) 6 6, .slice (some ⟨w.heap.size + 1 + 1 + 1 + 1, 0, none⟩) 5 5, .slice (some ⟨w.heap.size + 1 + 1 + 1 + 1 + 1, 0, none⟩) 3 3, .slice (some ⟨w.heap.size + 1 + 1 + 1 + 1 + 1 + 1, 0, none⟩) 5 5, .slice (some ⟨w.heap.size + 1 + 1 + 1 + 1 + 1 + 1 + 1, 0, none⟩) 1 1, .slice (some ⟨w.heap.size + 1 + 1 + 1 + 1 + 1 + 1 + 1 + 1, 0, none⟩) 1 1] 25)) (w.heap.size) (w.heap.size + 1) (w.heap.size + 1 + 1 + 1 + 1 + 1 + 1 + 1 + 1 + 1) k ∧ Below w.heap.size w ((((((((((w.alloc (.cells #[.string ⟨#[204, 128]⟩, .string ⟨#[204, 129]⟩, .string ⟨#[204, 130]⟩, .string ⟨#[204, 131]⟩, .string ⟨#[204, 136]⟩, .string ⟨#[204, 138]⟩, .string ⟨#[204, 167]⟩] 9)).alloc (.cells #[.string ⟨#[65, 69, 73, 79, 85]⟩, .string ⟨#[65, 69, 73, 79, 85, 89]⟩, .string ⟨#[65, 69, 73, 79, 85]⟩, .string ⟨#[65, 78, 79]⟩, .string ⟨#[65, 69, 73, 79, 85]⟩, .string ⟨#[65]⟩, .string ⟨#[67]⟩] 9)).alloc (.cells #[.int .i64 192, .int .i64 200, .int .i64 204, .int .i64 210, .int .i64 217] 3)).alloc (.cells #[.int .i64 193, .int .i64 201, .int .i64 205, .int .i64 211, .int .i64 218, .int .i64 221] 3)).alloc (.cells #[.int .i64 194, .int .i64 202, .int .i64 206, .int .i64 212, .int .i64 219] 3)).alloc (.cells #[.int .i64 195, .int .i64 209, .int .i64 213] 3)).alloc (.cells #[.int .i64 196, .int .i64 203, .int .i64 207, .int .i64 214, .int .i64 220] 3)).alloc (.cells #[.int .i64 197] 3)).alloc (.cells #[.int .i64 199] 3)).alloc (.cells #[.slice (some ⟨w.heap.size + 1 + 1, 0, none⟩) 5 5, .slice (some ⟨w.heap.size + 1 + 1 + 1, 0, none⟩) 6 6, .slice (some ⟨w.heap.size + 1 + 1 + 1 + 1, 0, none⟩) 5 5, .slice (some ⟨w.heap.size + 1 + 1 + 1 + 1 + 1, 0, none⟩) 3 3, .slice (some ⟨w.heap.size + 1 + 1 + 1 + 1 + 1 + 1, 0, none⟩) 5 5, .slice (some ⟨w.heap.size + 1 + 1 + 1 + 1 + 1 + 1 + 1, 0, none⟩) 1 1, .slice (some ⟨w.heap.size + 1 + 1 + 1 + 1 + 1 + 1 + 1 + 1, 0, none⟩) 1 1] 25)) := by
  have s0 : w.heap.size = w.heap.size + 0 := rfl
  have s1 : (w.alloc (.cells #[.string ⟨#[204, 128]⟩, .string ⟨#[204, 129]⟩, .string ⟨#[204, 130]⟩, .string ⟨#[204, 131]⟩, .string ⟨#[204, 136]⟩, .string ⟨#[204, 138]⟩, .string ⟨#[204, 167]⟩] 9)).heap.size = w.heap.size + 1 := by rw [World.size_alloc, s0]
  have s2 : ((w.alloc (.cells #[.string ⟨#[204, 128]⟩, .string ⟨#[204, 129]⟩, .string ⟨#[204, 130]⟩, .string ⟨#[204, 131]⟩, .string ⟨#[204, 136]⟩, .string ⟨#[204, 138]⟩, .string ⟨#[204, 167]⟩] 9)).alloc (.cells #[.string ⟨#[65, 69, 73, 79, 85]⟩, .string ⟨#[65, 69, 73, 79, 85, 89]⟩, .string ⟨#[65, 69, 73, 79, 85]⟩, .string ⟨#[65, 78, 79]⟩, .string ⟨#[65, 69, 73, 79, 85]⟩, .string ⟨#[65]⟩, .string ⟨#[67]⟩] 9)).heap.size = w.heap.size + 2 := by rw [World.size_alloc, s1]
  have s3 : (((w.alloc (.cells #[.string ⟨#[204, 128]⟩, .string ⟨#[204, 129]⟩, .string ⟨#[204, 130]⟩, .string ⟨#[204, 131]⟩, .string ⟨#[204, 136]⟩, .string ⟨#[204, 138]⟩, .string ⟨#[204, 167]⟩] 9)).alloc (.cells #[.string ⟨#[65, 69, 73, 79, 85]⟩, .string ⟨#[65, 69, 73, 79, 85, 89]⟩, .string ⟨#[65, 69, 73, 79, 85]⟩, .string ⟨#[65, 78, 79]⟩, .string ⟨#[65, 69, 73, 79, 85]⟩, .string ⟨#[65]⟩, .string ⟨#[67]⟩] 9)).alloc (.cells #[.int .i64 192, .int .i64 200, .int .i64 204, .int .i64 210, .int .i64 217] 3)).heap.size = w.heap.size + 3 := by rw [World.size_alloc, s2]
  have s4 : ((((w.alloc (.cells #[.string ⟨#[204, 128]⟩, .string ⟨#[204, 129]⟩, .string ⟨#[204, 130]⟩, .string ⟨#[204, 131]⟩, .string ⟨#[204, 136]⟩, .string ⟨#[204, 138]⟩, .string ⟨#[204, 167]⟩] 9)).alloc (.cells #[.string ⟨#[65, 69, 73, 79, 85]⟩, .string ⟨#[65, 69, 73, 79, 85, 89]⟩, .string ⟨#[65, 69, 73, 79, 85]⟩, .string ⟨#[65, 78, 79]⟩, .string ⟨#[65, 69, 73, 79, 85]⟩, .string ⟨#[65]⟩, .string ⟨#[67]⟩] 9)).alloc (.cells #[.int .i64 192, .int .i64 200, .int .i64 204, .int .i64 210, .int .i64 217] 3)).alloc (.cells #[.int .i64 193, .int .i64 201, .int .i64 205, .int .i64 211, .int .i64 218, .int .i64 221] 3)).heap.size = w.heap.size + 4 := by rw [World.size_alloc, s3]
  have s5 : (((((w.alloc (.cells #[.string ⟨#[204, 128]⟩, .string ⟨#[204, 129]⟩, .string ⟨#[204, 130]⟩, .string ⟨#[204, 131]⟩, .string ⟨#[204, 136]⟩, .string ⟨#[204, 138]⟩, .string ⟨#[204, 167]⟩] 9)).alloc (.cells #[.string ⟨#[65, 69, 73, 79, 85]⟩, .string ⟨#[65, 69, 73, 79, 85, 89]⟩, .string ⟨#[65, 69, 73, 79, 85]⟩, .string ⟨#[65, 78, 79]⟩, .string ⟨#[65, 69, 73, 79, 85]⟩, .string ⟨#[65]⟩, .string ⟨#[67]⟩] 9)).alloc (.cells #[.int .i64 192, .int .i64 200, .int .i64 204, .int .i64 210, .int .i64 217] 3)).alloc (.cells #[.int .i64 193, .int .i64 201, .int .i64 205, .int .i64 211, .int .i64 218, .int .i64 221] 3)).alloc (.cells #[.int .i64 194, .int .i64 202, .int .i64 206, .int .i64 212, .int .i64 219] 3)).heap.size = w.heap.size + 5 := by rw [World.size_alloc, s4]
  have s6 : ((((((w.alloc (.cells #[.string ⟨#[204, 128]⟩, .string ⟨#[204, 129]⟩, .string ⟨#[204, 130]⟩, .string ⟨#[204, 131]⟩, .string ⟨#[204, 136]⟩, .string ⟨#[204, 138]⟩, .string ⟨#[204, 167]⟩] 9)).alloc (.cells #[.string ⟨#[65, 69, 73, 79, 85]⟩, .string ⟨#[65, 69, 73, 79, 85, 89]⟩, .string ⟨#[65, 69, 73, 79, 85]⟩, .string ⟨#[65, 78, 79]⟩, .string ⟨#[65, 69, 73, 79, 85]⟩, .string ⟨#[65]⟩, .string ⟨#[67]⟩] 9)).alloc (.cells #[.int .i64 192, .int .i64 200, .int .i64 204, .int .i64 210, .int .i64 217] 3)).alloc (.cells #[.int .i64 193, .int .i64 201, .int .i64 205, .int .i64 211, .int .i64 218, .int .i64 221] 3)).alloc (.cells #[.int .i64 194, .int .i64 202, .int .i64 206, .int .i64 212, .int .i64 219] 3)).alloc (.cells #[.int .i64 195, .int .i64 209, .int .i64 213] 3)).heap.size = w.heap.size + 6 := by rw [World.size_alloc, s5]
  have s7 : (((((((w.alloc (.cells #[.string ⟨#[204, 128]⟩, .string ⟨#[204, 129]⟩, .string ⟨#[204, 130]⟩, .string ⟨#[204, 131]⟩, .string ⟨#[204, 136]⟩, .string ⟨#[204, 138]⟩, .string ⟨#[204, 167]⟩] 9)).alloc (.cells #[.string ⟨#[65, 69, 73, 79, 85]⟩, .string ⟨#[65, 69, 73, 79, 85, 89]⟩, .string ⟨#[65, 69, 73, 79, 85]⟩, .string ⟨#[65, 78, 79]⟩, .string ⟨#[65, 69, 73, 79, 85]⟩, .string ⟨#[65]⟩, .string ⟨#[67]⟩] 9)).alloc (.cells #[.int .i64 192, .int .i64 200, .int .i64 204, .int .i64 210, .int .i64 217] 3)).alloc (.cells #[.int .i64 193, .int .i64 201, .int .i64 205, .int .i64 211, .int .i64 218, .int .i64 221] 3)).alloc (.cells #[.int .i64 194, .int .i64 202, .int .i64 206, .int .i64 212, .int .i64 219] 3)).alloc (.cells #[.int .i64 195, .int .i64 209, .int .i64 213] 3)).alloc (.cells #[.int .i64 196, .int .i64 203, .int .i64 207, .int .i64 214, .int .i64 220] 3)).heap.size = w.heap.size + 7 := by rw [World.size_alloc, s6]
  have s8 : ((((((((w.alloc (.cells #[.string ⟨#[204, 128]⟩, .string ⟨#[204, 129]⟩, .string ⟨#[204, 130]⟩, .string ⟨#[204, 131]⟩, .string ⟨#[204, 136]⟩, .string ⟨#[204, 138]⟩, .string ⟨#[204, 167]⟩] 9)).alloc (.cells #[.string ⟨#[65, 69, 73, 79, 85]⟩, .string ⟨#[65, 69, 73, 79, 85, 89]⟩, .string ⟨#[65, 69, 73, 79, 85]⟩, .string ⟨#[65, 78, 79]⟩, .string ⟨#[65, 69, 73, 79, 85]⟩, .string ⟨#[65]⟩, .string ⟨#[67]⟩] 9)).alloc (.cells #[.int .i64 192, .int .i64 200, .int .i64 204, .int .i64 210, .int .i64 217] 3)).alloc (.cells #[.int .i64 193, .int .i64 201, .int .i64 205, .int .i64 211, .int .i64 218, .int .i64 221] 3)).alloc (.cells #[.int .i64 194, .int .i64 202, .int .i64 206, .int .i64 212, .int .i64 219] 3)).alloc (.cells #[.int .i64 195, .int .i64 209, .int .i64 213] 3)).alloc (.cells #[.int .i64 196, .int .i64 203, .int .i64 207, .int .i64 214, .int .i64 220] 3)).alloc (.cells #[.int .i64 197] 3)).heap.size = w.heap.size + 8 := by rw [World.size_alloc, s7]
  have s9 : (((((((((w.alloc (.cells #[.string ⟨#[204, 128]⟩, .string ⟨#[204, 129]⟩, .string ⟨#[204, 130]⟩, .string ⟨#[204, 131]⟩, .string ⟨#[204, 136]⟩, .string ⟨#[204, 138]⟩, .string ⟨#[204, 167]⟩] 9)).alloc (.cells #[.string ⟨#[65, 69, 73, 79, 85]⟩, .string ⟨#[65, 69, 73, 79, 85, 89]⟩, .string ⟨#[65, 69, 73, 79, 85]⟩, .string ⟨#[65, 78, 79]⟩, .string ⟨#[65, 69, 73, 79, 85]⟩, .string ⟨#[65]⟩, .string ⟨#[67]⟩] 9)).alloc (.cells #[.int .i64 192, .int .i64 200, .int .i64 204, .int .i64 210, .int .i64 217] 3)).alloc (.cells #[.int .i64 193, .int .i64 201, .int .i64 205, .int .i64 211, .int .i64 218, .int .i64 221] 3)).alloc (.cells #[.int .i64 194, .int .i64 202, .int .i64 206, .int .i64 212, .int .i64 219] 3)).alloc (.cells #[.int .i64 195, .int .i64 209, .int .i64 213] 3)).alloc (.cells #[.int .i64 196, .int .i64 203, .int .i64 207, .int .i64 214, .int .i64 220] 3)).alloc (.cells #[.int .i64 197] 3)).alloc (.cells #[.int .i64 199] 3)).heap.size = w.heap.size + 9 := by rw [World.size_alloc, s8]
  have b0 : ((((((((((w.alloc (.cells #[.string ⟨#[204, 128]⟩, .string ⟨#[204, 129]⟩, .string ⟨#[204, 130]⟩, .string ⟨#[204, 131]⟩, .string ⟨#[204, 136]⟩, .string ⟨#[204, 138]⟩, .string ⟨#[204, 167]⟩] 9)).alloc (.cells #[.string ⟨#[65, 69, 73, 79, 85]⟩, .string ⟨#[65, 69, 73, 79, 85, 89]⟩, .string ⟨#[65, 69, 73, 79, 85]⟩, .string ⟨#[65, 78, 79]⟩, .string ⟨#[65, 69, 73, 79, 85]⟩, .string ⟨#[65]⟩, .string ⟨#[67]⟩] 9)).alloc (.cells #[.int .i64 192, .int .i64 200, .int .i64 204, .int .i64 210, .int .i64 217] 3)).alloc (.cells #[.int .i64 193, .int .i64 201, .int .i64 205, .int .i64 211, .int .i64 218, .int .i64 221] 3)).alloc (.cells #[.int .i64 194, .int .i64 202, .int .i64 206, .int .i64 212, .int .i64 219] 3)).alloc (.cells #[.int .i64 195, .int .i64 209, .int .i64 213] 3)).alloc (.cells #[.int .i64 196, .int .i64 203, .int .i64 207, .int .i64 214, .int .i64 220] 3)).alloc (.cells #[.int .i64 197] 3)).alloc (.cells #[.int .i64 199] 3)).alloc (.cells #[.slice (some ⟨w.heap.size + 1 + 1, 0, none⟩) 5 5, .slice (some ⟨w.heap.size + 1 + 1 + 1, 0, none⟩) 6 6, .slice (some ⟨w.heap.size + 1 + 1 + 1 + 1, 0, none⟩) 5 5, .slice (some ⟨w.heap.size + 1 + 1 + 1 + 1 + 1, 0, none⟩) 3 3, .slice (some ⟨w.heap.size + 1 + 1 + 1 + 1 + 1 + 1, 0, none⟩) 5 5, .slice (some ⟨w.heap.size + 1 + 1 + 1 + 1 + 1 + 1 + 1, 0, none⟩) 1 1, .slice (some ⟨w.heap.size + 1 + 1 + 1 + 1 + 1 + 1 + 1 + 1, 0, none⟩) 1 1] 25)).heap[w.heap.size + 0]? = some (.cells #[.string ⟨#[204, 128]⟩, .string ⟨#[204, 129]⟩, .string ⟨#[204, 130]⟩, .string ⟨#[204, 131]⟩, .string ⟨#[204, 136]⟩, .string ⟨#[204, 138]⟩, .string ⟨#[204, 167]⟩] 9 (0, 0)) := by
    have h := heap_alloc_new w (.cells #[.string ⟨#[204, 128]⟩, .string ⟨#[204, 129]⟩, .string ⟨#[204, 130]⟩, .string ⟨#[204, 131]⟩, .string ⟨#[204, 136]⟩, .string ⟨#[204, 138]⟩, .string ⟨#[204, 167]⟩] 9)
    exact (heap_push (heap_push (heap_push (heap_push (heap_push (heap_push (heap_push (heap_push (heap_push h _) _) _) _) _) _) _) _) _)
  have b1 : ((((((((((w.alloc (.cells #[.string ⟨#[204, 128]⟩, .string ⟨#[204, 129]⟩, .string ⟨#[204, 130]⟩, .string ⟨#[204, 131]⟩, .string ⟨#[204, 136]⟩, .string ⟨#[204, 138]⟩, .string ⟨#[204, 167]⟩] 9)).alloc (.cells #[.string ⟨#[65, 69, 73, 79, 85]⟩, .string ⟨#[65, 69, 73, 79, 85, 89]⟩, .string ⟨#[65, 69, 73, 79, 85]⟩, .string ⟨#[65, 78, 79]⟩, .string ⟨#[65, 69, 73, 79, 85]⟩, .string ⟨#[65]⟩, .string ⟨#[67]⟩] 9)).alloc (.cells #[.int .i64 192, .int .i64 200, .int .i64 204, .int .i64 210, .int .i64 217] 3)).alloc (.cells #[.int .i64 193, .int .i64 201, .int .i64 205, .int .i64 211, .int .i64 218, .int .i64 221] 3)).alloc (.cells #[.int .i64 194, .int .i64 202, .int .i64 206, .int .i64 212, .int .i64 219] 3)).alloc (.cells #[.int .i64 195, .int .i64 209, .int .i64 213] 3)).alloc (.cells #[.int .i64 196, .int .i64 203, .int .i64 207, .int .i64 214, .int .i64 220] 3)).alloc (.cells #[.int .i64 197] 3)).alloc (.cells #[.int .i64 199] 3)).alloc (.cells #[.slice (some ⟨w.heap.size + 1 + 1, 0, none⟩) 5 5, .slice (some ⟨w.heap.size + 1 + 1 + 1, 0, none⟩) 6 6, .slice (some ⟨w.heap.size + 1 + 1 + 1 + 1, 0, none⟩) 5 5, .slice (some ⟨w.heap.size + 1 + 1 + 1 + 1 + 1, 0, none⟩) 3 3, .slice (some ⟨w.heap.size + 1 + 1 + 1 + 1 + 1 + 1, 0, none⟩) 5 5, .slice (some ⟨w.heap.size + 1 + 1 + 1 + 1 + 1 + 1 + 1, 0, none⟩) 1 1, .slice (some ⟨w.heap.size + 1 + 1 + 1 + 1 + 1 + 1 + 1 + 1, 0, none⟩) 1 1] 25)).heap[w.heap.size + 1]? = some (.cells #[.string ⟨#[65, 69, 73, 79, 85]⟩, .string ⟨#[65, 69, 73, 79, 85, 89]⟩, .string ⟨#[65, 69, 73, 79, 85]⟩, .string ⟨#[65, 78, 79]⟩, .string ⟨#[65, 69, 73, 79, 85]⟩, .string ⟨#[65]⟩, .string ⟨#[67]⟩] 9 (0, 0)) := by
    have h := heap_alloc_new (w.alloc (.cells #[.string ⟨#[204, 128]⟩, .string ⟨#[204, 129]⟩, .string ⟨#[204, 130]⟩, .string ⟨#[204, 131]⟩, .string ⟨#[204, 136]⟩, .string ⟨#[204, 138]⟩, .string ⟨#[204, 167]⟩] 9)) (.cells #[.string ⟨#[65, 69, 73, 79, 85]⟩, .string ⟨#[65, 69, 73, 79, 85, 89]⟩, .string ⟨#[65, 69, 73, 79, 85]⟩, .string ⟨#[65, 78, 79]⟩, .string ⟨#[65, 69, 73, 79, 85]⟩, .string ⟨#[65]⟩, .string ⟨#[67]⟩] 9)
    rw [s1] at h
    exact (heap_push (heap_push (heap_push (heap_push (heap_push (heap_push (heap_push (heap_push h _) _) _) _) _) _) _) _)
  have b2 : ((((((((((w.alloc (.cells #[.string ⟨#[204, 128]⟩, .string ⟨#[204, 129]⟩, .string ⟨#[204, 130]⟩, .string ⟨#[204, 131]⟩, .string ⟨#[204, 136]⟩, .string ⟨#[204, 138]⟩, .string ⟨#[204, 167]⟩] 9)).alloc (.cells #[.string ⟨#[65, 69, 73, 79, 85]⟩, .string ⟨#[65, 69, 73, 79, 85, 89]⟩, .string ⟨#[65, 69, 73, 79, 85]⟩, .string ⟨#[65, 78, 79]⟩, .string ⟨#[65, 69, 73, 79, 85]⟩, .string ⟨#[65]⟩, .string ⟨#[67]⟩] 9)).alloc (.cells #[.int .i64 192, .int .i64 200, .int .i64 204, .int .i64 210, .int .i64 217] 3)).alloc (.cells #[.int .i64 193, .int .i64 201, .int .i64 205, .int .i64 211, .int .i64 218, .int .i64 221] 3)).alloc (.cells #[.int .i64 194, .int .i64 202, .int .i64 206, .int .i64 212, .int .i64 219] 3)).alloc (.cells #[.int .i64 195, .int .i64 209, .int .i64 213] 3)).alloc (.cells #[.int .i64 196, .int .i64 203, .int .i64 207, .int .i64 214, .int .i64 220] 3)).alloc (.cells #[.int .i64 197] 3)).alloc (.cells #[.int .i64 199] 3)).alloc (.cells #[.slice (some ⟨w.heap.size + 1 + 1, 0, none⟩) 5 5, .slice (some ⟨w.heap.size + 1 + 1 + 1, 0, none⟩) 6 6, .slice (some ⟨w.heap.size + 1 + 1 + 1 + 1, 0, none⟩) 5 5, .slice (some ⟨w.heap.size + 1 + 1 + 1 + 1 + 1, 0, none⟩) 3 3, .slice (some ⟨w.heap.size + 1 + 1 + 1 + 1 + 1 + 1, 0, none⟩) 5 5, .slice (some ⟨w.heap.size + 1 + 1 + 1 + 1 + 1 + 1 + 1, 0, none⟩) 1 1, .slice (some ⟨w.heap.size + 1 + 1 + 1 + 1 + 1 + 1 + 1 + 1, 0, none⟩) 1 1] 25)).heap[w.heap.size + 2]? = some (.cells #[.int .i64 192, .int .i64 200, .int .i64 204, .int .i64 210, .int .i64 217] 3 (0, 0)) := by
    have h := heap_alloc_new ((w.alloc (.cells #[.string ⟨#[204, 128]⟩, .string ⟨#[204, 129]⟩, .string ⟨#[204, 130]⟩, .string ⟨#[204, 131]⟩, .string ⟨#[204, 136]⟩, .string ⟨#[204, 138]⟩, .string ⟨#[204, 167]⟩] 9)).alloc (.cells #[.string ⟨#[65, 69, 73, 79, 85]⟩, .string ⟨#[65, 69, 73, 79, 85, 89]⟩, .string ⟨#[65, 69, 73, 79, 85]⟩, .string ⟨#[65, 78, 79]⟩, .string ⟨#[65, 69, 73, 79, 85]⟩, .string ⟨#[65]⟩, .string ⟨#[67]⟩] 9)) (.cells #[.int .i64 192, .int .i64 200, .int .i64 204, .int .i64 210, .int .i64 217] 3)
    rw [s2] at h
    exact (heap_push (heap_push (heap_push (heap_push (heap_push (heap_push (heap_push h _) _) _) _) _) _) _)
  have b3 : ((((((((((w.alloc (.cells #[.string ⟨#[204, 128]⟩, .string ⟨#[204, 129]⟩, .string ⟨#[204, 130]⟩, .string ⟨#[204, 131]⟩, .string ⟨#[204, 136]⟩, .string ⟨#[204, 138]⟩, .string ⟨#[204, 167]⟩] 9)).alloc (.cells #[.string ⟨#[65, 69, 73, 79, 85]⟩, .string ⟨#[65, 69, 73, 79, 85, 89]⟩, .string ⟨#[65, 69, 73, 79, 85]⟩, .string ⟨#[65, 78, 79]⟩, .string ⟨#[65, 69, 73, 79, 85]⟩, .string ⟨#[65]⟩, .string ⟨#[67]⟩] 9)).alloc (.cells #[.int .i64 192, .int .i64 200, .int .i64 204, .int .i64 210, .int .i64 217] 3)).alloc (.cells #[.int .i64 193, .int .i64 201, .int .i64 205, .int .i64 211, .int .i64 218, .int .i64 221] 3)).alloc (.cells #[.int .i64 194, .int .i64 202, .int .i64 206, .int .i64 212, .int .i64 219] 3)).alloc (.cells #[.int .i64 195, .int .i64 209, .int .i64 213] 3)).alloc (.cells #[.int .i64 196, .int .i64 203, .int .i64 207, .int .i64 214, .int .i64 220] 3)).alloc (.cells #[.int .i64 197] 3)).alloc (.cells #[.int .i64 199] 3)).alloc (.cells #[.slice (some ⟨w.heap.size + 1 + 1, 0, none⟩) 5 5, .slice (some ⟨w.heap.size + 1 + 1 + 1, 0, none⟩) 6 6, .slice (some ⟨w.heap.size + 1 + 1 + 1 + 1, 0, none⟩) 5 5, .slice (some ⟨w.heap.size + 1 + 1 + 1 + 1 + 1, 0, none⟩) 3 3, .slice (some ⟨w.heap.size + 1 + 1 + 1 + 1 + 1 + 1, 0, none⟩) 5 5, .slice (some ⟨w.heap.size + 1 + 1 + 1 + 1 + 1 + 1 + 1, 0, none⟩) 1 1, .slice (some ⟨w.heap.size + 1 + 1 + 1 + 1 + 1 + 1 + 1 + 1, 0, none⟩) 1 1] 25)).heap[w.heap.size + 3]? = some (.cells #[.int .i64 193, .int .i64 201, .int .i64 205, .int .i64 211, .int .i64 218, .int .i64 221] 3 (0, 0)) := by
    have h := heap_alloc_new (((w.alloc (.cells #[.string ⟨#[204, 128]⟩, .string ⟨#[204, 129]⟩, .string ⟨#[204, 130]⟩, .string ⟨#[204, 131]⟩, .string ⟨#[204, 136]⟩, .string ⟨#[204, 138]⟩, .string ⟨#[204, 167]⟩] 9)).alloc (.cells #[.string ⟨#[65, 69, 73, 79, 85]⟩, .string ⟨#[65, 69, 73, 79, 85, 89]⟩, .string ⟨#[65, 69, 73, 79, 85]⟩, .string ⟨#[65, 78, 79]⟩, .string ⟨#[65, 69, 73, 79, 85]⟩, .string ⟨#[65]⟩, .string ⟨#[67]⟩] 9)).alloc (.cells #[.int .i64 192, .int .i64 200, .int .i64 204, .int .i64 210, .int .i64 217] 3)) (.cells #[.int .i64 193, .int .i64 201, .int .i64 205, .int .i64 211, .int .i64 218, .int .i64 221] 3)
    rw [s3] at h
    exact (heap_push (heap_push (heap_push (heap_push (heap_push (heap_push h _) _) _) _) _) _)
  have b4 : ((((((((((w.alloc (.cells #[.string ⟨#[204, 128]⟩, .string ⟨#[204, 129]⟩, .string ⟨#[204, 130]⟩, .string ⟨#[204, 131]⟩, .string ⟨#[204, 136]⟩, .string ⟨#[204, 138]⟩, .string ⟨#[204, 167]⟩] 9)).alloc (.cells #[.string ⟨#[65, 69, 73, 79, 85]⟩, .string ⟨#[65, 69, 73, 79, 85, 89]⟩, .string ⟨#[65, 69, 73, 79, 85]⟩, .string ⟨#[65, 78, 79]⟩, .string ⟨#[65, 69, 73, 79, 85]⟩, .string ⟨#[65]⟩, .string ⟨#[67]⟩] 9)).alloc (.cells #[.int .i64 192, .int .i64 200, .int .i64 204, .int .i64 210, .int .i64 217] 3)).alloc (.cells #[.int .i64 193, .int .i64 201, .int .i64 205, .int .i64 211, .int .i64 218, .int .i64 221] 3)).alloc (.cells #[.int .i64 194, .int .i64 202, .int .i64 206, .int .i64 212, .int .i64 219] 3)).alloc (.cells #[.int .i64 195, .int .i64 209, .int .i64 213] 3)).alloc (.cells #[.int .i64 196, .int .i64 203, .int .i64 207, .int .i64 214, .int .i64 220] 3)).alloc (.cells #[.int .i64 197] 3)).alloc (.cells #[.int .i64 199] 3)).alloc (.cells #[.slice (some ⟨w.heap.size + 1 + 1, 0, none⟩) 5 5, .slice (some ⟨w.heap.size + 1 + 1 + 1, 0, none⟩) 6 6, .slice (some ⟨w.heap.size + 1 + 1 + 1 + 1, 0, none⟩) 5 5, .slice (some ⟨w.heap.size + 1 + 1 + 1 + 1 + 1, 0, none⟩) 3 3, .slice (some ⟨w.heap.size + 1 + 1 + 1 + 1 + 1 + 1, 0, none⟩) 5 5, .slice (some ⟨w.heap.size + 1 + 1 + 1 + 1 + 1 + 1 + 1, 0, none⟩) 1 1, .slice (some ⟨w.heap.size + 1 + 1 + 1 + 1 + 1 + 1 + 1 + 1, 0, none⟩) 1 1] 25)).heap[w.heap.size + 4]? = some (.cells #[.int .i64 194, .int .i64 202, .int .i64 206, .int .i64 212, .int .i64 219] 3 (0, 0)) := by
    have h := heap_alloc_new ((((w.alloc (.cells #[.string ⟨#[204, 128]⟩, .string ⟨#[204, 129]⟩, .string ⟨#[204, 130]⟩, .string ⟨#[204, 131]⟩, .string ⟨#[204, 136]⟩, .string ⟨#[204, 138]⟩, .string ⟨#[204, 167]⟩] 9)).alloc (.cells #[.string ⟨#[65, 69, 73, 79, 85]⟩, .string ⟨#[65, 69, 73, 79, 85, 89]⟩, .string ⟨#[65, 69, 73, 79, 85]⟩, .string ⟨#[65, 78, 79]⟩, .string ⟨#[65, 69, 73, 79, 85]⟩, .string ⟨#[65]⟩, .string ⟨#[67]⟩] 9)).alloc (.cells #[.int .i64 192, .int .i64 200, .int .i64 204, .int .i64 210, .int .i64 217] 3)).alloc (.cells #[.int .i64 193, .int .i64 201, .int .i64 205, .int .i64 211, .int .i64 218, .int .i64 221] 3)) (.cells #[.int .i64 194, .int .i64 202, .int .i64 206, .int .i64 212, .int .i64 219] 3)
    rw [s4] at h
    exact (heap_push (heap_push (heap_push (heap_push (heap_push h _) _) _) _) _)
  have b5 : ((((((((((w.alloc (.cells #[.string ⟨#[204, 128]⟩, .string ⟨#[204, 129]⟩, .string ⟨#[204, 130]⟩, .string ⟨#[204, 131]⟩, .string ⟨#[204, 136]⟩, .string ⟨#[204, 138]⟩, .string ⟨#[204, 167]⟩] 9)).alloc (.cells #[.string ⟨#[65, 69, 73, 79, 85]⟩, .string ⟨#[65, 69, 73, 79, 85, 89]⟩, .string ⟨#[65, 69, 73, 79, 85]⟩, .string ⟨#[65, 78, 79]⟩, .string ⟨#[65, 69, 73, 79, 85]⟩, .string ⟨#[65]⟩, .string ⟨#[67]⟩] 9)).alloc (.cells #[.int .i64 192, .int .i64 200, .int .i64 204, .int .i64 210, .int .i64 217] 3)).alloc (.cells #[.int .i64 193, .int .i64 201, .int .i64 205, .int .i64 211, .int .i64 218, .int .i64 221] 3)).alloc (.cells #[.int .i64 194, .int .i64 202, .int .i64 206, .int .i64 212, .int .i64 219] 3)).alloc (.cells #[.int .i64 195, .int .i64 209, .int .i64 213] 3)).alloc (.cells #[.int .i64 196, .int .i64 203, .int .i64 207, .int .i64 214, .int .i64 220] 3)).alloc (.cells #[.int .i64 197] 3)).alloc (.cells #[.int .i64 199] 3)).alloc (.cells #[.slice (some ⟨w.heap.size + 1 + 1, 0, none⟩) 5 5, .slice (some ⟨w.heap.size + 1 + 1 + 1, 0, none⟩) 6 6, .slice (some ⟨w.heap.size + 1 + 1 + 1 + 1, 0, none⟩) 5 5, .slice (some ⟨w.heap.size + 1 + 1 + 1 + 1 + 1, 0, none⟩) 3 3, .slice (some ⟨w.heap.size + 1 + 1 + 1 + 1 + 1 + 1, 0, none⟩) 5 5, .slice (some ⟨w.heap.size + 1 + 1 + 1 + 1 + 1 + 1 + 1, 0, none⟩) 1 1, .slice (some ⟨w.heap.size + 1 + 1 + 1 + 1 + 1 + 1 + 1 + 1, 0, none⟩) 1 1] 25)).heap[w.heap.size + 5]? = some (.cells #[.int .i64 195, .int .i64 209, .int .i64 213] 3 (0, 0)) := by
    have h := heap_alloc_new (((((w.alloc (.cells #[.string ⟨#[204, 128]⟩, .string ⟨#[204, 129]⟩, .string ⟨#[204, 130]⟩, .string ⟨#[204, 131]⟩, .string ⟨#[204, 136]⟩, .string ⟨#[204, 138]⟩, .string ⟨#[204, 167]⟩] 9)).alloc (.cells #[.string ⟨#[65, 69, 73, 79, 85]⟩, .string ⟨#[65, 69, 73, 79, 85, 89]⟩, .string ⟨#[65, 69, 73, 79, 85]⟩, .string ⟨#[65, 78, 79]⟩, .string ⟨#[65, 69, 73, 79, 85]⟩, .string ⟨#[65]⟩, .string ⟨#[67]⟩] 9)).alloc (.cells #[.int .i64 192, .int .i64 200, .int .i64 204, .int .i64 210, .int .i64 217] 3)).alloc (.cells #[.int .i64 193, .int .i64 201, .int .i64 205, .int .i64 211, .int .i64 218, .int .i64 221] 3)).alloc (.cells #[.int .i64 194, .int .i64 202, .int .i64 206, .int .i64 212, .int .i64 219] 3)) (.cells #[.int .i64 195, .int .i64 209, .int .i64 213] 3)
    rw [s5] at h
    exact (heap_push (heap_push (heap_push (heap_push h _) _) _) _)
  have b6 : ((((((((((w.alloc (.cells #[.string ⟨#[204, 128]⟩, .string ⟨#[204, 129]⟩, .string ⟨#[204, 130]⟩, .string ⟨#[204, 131]⟩, .string ⟨#[204, 136]⟩, .string ⟨#[204, 138]⟩, .string ⟨#[204, 167]⟩] 9)).alloc (.cells #[.string ⟨#[65, 69, 73, 79, 85]⟩, .string ⟨#[65, 69, 73, 79, 85, 89]⟩, .string ⟨#[65, 69, 73, 79, 85]⟩, .string ⟨#[65, 78, 79]⟩, .string ⟨#[65, 69, 73, 79, 85]⟩, .string ⟨#[65]⟩, .string ⟨#[67]⟩] 9)).alloc (.cells #[.int .i64 192, .int .i64 200, .int .i64 204, .int .i64 210, .int .i64 217] 3)).alloc (.cells #[.int .i64 193, .int .i64 201, .int .i64 205, .int .i64 211, .int .i64 218, .int .i64 221] 3)).alloc (.cells #[.int .i64 194, .int .i64 202, .int .i64 206, .int .i64 212, .int .i64 219] 3)).alloc (.cells #[.int .i64 195, .int .i64 209, .int .i64 213] 3)).alloc (.cells #[.int .i64 196, .int .i64 203, .int .i64 207, .int .i64 214, .int .i64 220] 3)).alloc (.cells #[.int .i64 197] 3)).alloc (.cells #[.int .i64 199] 3)).alloc (.cells #[.slice (some ⟨w.heap.size + 1 + 1, 0, none⟩) 5 5, .slice (some ⟨w.heap.size + 1 + 1 + 1, 0, none⟩) 6 6, .slice (some ⟨w.heap.size + 1 + 1 + 1 + 1, 0, none⟩) 5 5, .slice (some ⟨w.heap.size + 1 + 1 + 1 + 1 + 1, 0, none⟩) 3 3, .slice (some ⟨w.heap.size + 1 + 1 + 1 + 1 + 1 + 1, 0, none⟩) 5 5, .slice (some ⟨w.heap.size + 1 + 1 + 1 + 1 + 1 + 1 + 1, 0, none⟩) 1 1, .slice (some ⟨w.heap.size + 1 + 1 + 1 + 1 + 1 + 1 + 1 + 1, 0, none⟩) 1 1] 25)).heap[w.heap.size + 6]? = some (.cells #[.int .i64 196, .int .i64 203, .int .i64 207, .int .i64 214, .int .i64 220] 3 (0, 0)) := by
    have h := heap_alloc_new ((((((w.alloc (.cells #[.string ⟨#[204, 128]⟩, .string ⟨#[204, 129]⟩, .string ⟨#[204, 130]⟩, .string ⟨#[204, 131]⟩, .string ⟨#[204, 136]⟩, .string ⟨#[204, 138]⟩, .string ⟨#[204, 167]⟩] 9)).alloc (.cells #[.string ⟨#[65, 69, 73, 79, 85]⟩, .string ⟨#[65, 69, 73, 79, 85, 89]⟩, .string ⟨#[65, 69, 73, 79, 85]⟩, .string ⟨#[65, 78, 79]⟩, .string ⟨#[65, 69, 73, 79, 85]⟩, .string ⟨#[65]⟩, .string ⟨#[67]⟩] 9)).alloc (.cells #[.int .i64 192, .int .i64 200, .int .i64 204, .int .i64 210, .int .i64 217] 3)).alloc (.cells #[.int .i64 193, .int .i64 201, .int .i64 205, .int .i64 211, .int .i64 218, .int .i64 221] 3)).alloc (.cells #[.int .i64 194, .int .i64 202, .int .i64 206, .int .i64 212, .int .i64 219] 3)).alloc (.cells #[.int .i64 195, .int .i64 209, .int .i64 213] 3)) (.cells #[.int .i64 196, .int .i64 203, .int .i64 207, .int .i64 214, .int .i64 220] 3)
    rw [s6] at h
    exact (heap_push (heap_push (heap_push h _) _) _)
  have b7 : ((((((((((w.alloc (.cells #[.string ⟨#[204, 128]⟩, .string ⟨#[204, 129]⟩, .string ⟨#[204, 130]⟩, .string ⟨#[204, 131]⟩, .string ⟨#[204, 136]⟩, .string ⟨#[204, 138]⟩, .string ⟨#[204, 167]⟩] 9)).alloc (.cells #[.string ⟨#[65, 69, 73, 79, 85]⟩, .string ⟨#[65, 69, 73, 79, 85, 89]⟩, .string ⟨#[65, 69, 73, 79, 85]⟩, .string ⟨#[65, 78, 79]⟩, .string ⟨#[65, 69, 73, 79, 85]⟩, .string ⟨#[65]⟩, .string ⟨#[67]⟩] 9)).alloc (.cells #[.int .i64 192, .int .i64 200, .int .i64 204, .int .i64 210, .int .i64 217] 3)).alloc (.cells #[.int .i64 193, .int .i64 201, .int .i64 205, .int .i64 211, .int .i64 218, .int .i64 221] 3)).alloc (.cells #[.int .i64 194, .int .i64 202, .int .i64 206, .int .i64 212, .int .i64 219] 3)).alloc (.cells #[.int .i64 195, .int .i64 209, .int .i64 213] 3)).alloc (.cells #[.int .i64 196, .int .i64 203, .int .i64 207, .int .i64 214, .int .i64 220] 3)).alloc (.cells #[.int .i64 197] 3)).alloc (.cells #[.int .i64 199] 3)).alloc (.cells #[.slice (some ⟨w.heap.size + 1 + 1, 0, none⟩) 5 5, .slice (some ⟨w.heap.size + 1 + 1 + 1, 0, none⟩) 6 6, .slice (some ⟨w.heap.size + 1 + 1 + 1 + 1, 0, none⟩) 5 5, .slice (some ⟨w.heap.size + 1 + 1 + 1 + 1 + 1, 0, none⟩) 3 3, .slice (some ⟨w.heap.size + 1 + 1 + 1 + 1 + 1 + 1, 0, none⟩) 5 5, .slice (some ⟨w.heap.size + 1 + 1 + 1 + 1 + 1 + 1 + 1, 0, none⟩) 1 1, .slice (some ⟨w.heap.size + 1 + 1 + 1 + 1 + 1 + 1 + 1 + 1, 0, none⟩) 1 1] 25)).heap[w.heap.size + 7]? = some (.cells #[.int .i64 197] 3 (0, 0)) := by
    have h := heap_alloc_new (((((((w.alloc (.cells #[.string ⟨#[204, 128]⟩, .string ⟨#[204, 129]⟩, .string ⟨#[204, 130]⟩, .string ⟨#[204, 131]⟩, .string ⟨#[204, 136]⟩, .string ⟨#[204, 138]⟩, .string ⟨#[204, 167]⟩] 9)).alloc (.cells #[.string ⟨#[65, 69, 73, 79, 85]⟩, .string ⟨#[65, 69, 73, 79, 85, 89]⟩, .string ⟨#[65, 69, 73, 79, 85]⟩, .string ⟨#[65, 78, 79]⟩, .string ⟨#[65, 69, 73, 79, 85]⟩, .string ⟨#[65]⟩, .string ⟨#[67]⟩] 9)).alloc (.cells #[.int .i64 192, .int .i64 200, .int .i64 204, .int .i64 210, .int .i64 217] 3)).alloc (.cells #[.int .i64 193, .int .i64 201, .int .i64 205, .int .i64 211, .int .i64 218, .int .i64 221] 3)).alloc (.cells #[.int .i64 194, .int .i64 202, .int .i64 206, .int .i64 212, .int .i64 219] 3)).alloc (.cells #[.int .i64 195, .int .i64 209, .int .i64 213] 3)).alloc (.cells #[.int .i64 196, .int .i64 203, .int .i64 207, .int .i64 214, .int .i64 220] 3)) (.cells #[.int .i64 197] 3)
    rw [s7] at h
    exact (heap_push (heap_push h _) _)
  have b8 : ((((((((((w.alloc (.cells #[.string ⟨#[204, 128]⟩, .string ⟨#[204, 129]⟩, .string ⟨#[204, 130]⟩, .string ⟨#[204, 131]⟩, .string ⟨#[204, 136]⟩, .string ⟨#[204, 138]⟩, .string ⟨#[204, 167]⟩] 9)).alloc (.cells #[.string ⟨#[65, 69, 73, 79, 85]⟩, .string ⟨#[65, 69, 73, 79, 85, 89]⟩, .string ⟨#[65, 69, 73, 79, 85]⟩, .string ⟨#[65, 78, 79]⟩, .string ⟨#[65, 69, 73, 79, 85]⟩, .string ⟨#[65]⟩, .string ⟨#[67]⟩] 9)).alloc (.cells #[.int .i64 192, .int .i64 200, .int .i64 204, .int .i64 210, .int .i64 217] 3)).alloc (.cells #[.int .i64 193, .int .i64 201, .int .i64 205, .int .i64 211, .int .i64 218, .int .i64 221] 3)).alloc (.cells #[.int .i64 194, .int .i64 202, .int .i64 206, .int .i64 212, .int .i64 219] 3)).alloc (.cells #[.int .i64 195, .int .i64 209, .int .i64 213] 3)).alloc (.cells #[.int .i64 196, .int .i64 203, .int .i64 207, .int .i64 214, .int .i64 220] 3)).alloc (.cells #[.int .i64 197] 3)).alloc (.cells #[.int .i64 199] 3)).alloc (.cells #[.slice (some ⟨w.heap.size + 1 + 1, 0, none⟩) 5 5, .slice (some ⟨w.heap.size + 1 + 1 + 1, 0, none⟩) 6 6, .slice (some ⟨w.heap.size + 1 + 1 + 1 + 1, 0, none⟩) 5 5, .slice (some ⟨w.heap.size + 1 + 1 + 1 + 1 + 1, 0, none⟩) 3 3, .slice (some ⟨w.heap.size + 1 + 1 + 1 + 1 + 1 + 1, 0, none⟩) 5 5, .slice (some ⟨w.heap.size + 1 + 1 + 1 + 1 + 1 + 1 + 1, 0, none⟩) 1 1, .slice (some ⟨w.heap.size + 1 + 1 + 1 + 1 + 1 + 1 + 1 + 1, 0, none⟩) 1 1] 25)).heap[w.heap.size + 8]? = some (.cells #[.int .i64 199] 3 (0, 0)) := by
    have h := heap_alloc_new ((((((((w.alloc (.cells #[.string ⟨#[204, 128]⟩, .string ⟨#[204, 129]⟩, .string ⟨#[204, 130]⟩, .string ⟨#[204, 131]⟩, .string ⟨#[204, 136]⟩, .string ⟨#[204, 138]⟩, .string ⟨#[204, 167]⟩] 9)).alloc (.cells #[.string ⟨#[65, 69, 73, 79, 85]⟩, .string ⟨#[65, 69, 73, 79, 85, 89]⟩, .string ⟨#[65, 69, 73, 79, 85]⟩, .string ⟨#[65, 78, 79]⟩, .string ⟨#[65, 69, 73, 79, 85]⟩, .string ⟨#[65]⟩, .string ⟨#[67]⟩] 9)).alloc (.cells #[.int .i64 192, .int .i64 200, .int .i64 204, .int .i64 210, .int .i64 217] 3)).alloc (.cells #[.int .i64 193, .int .i64 201, .int .i64 205, .int .i64 211, .int .i64 218, .int .i64 221] 3)).alloc (.cells #[.int .i64 194, .int .i64 202, .int .i64 206, .int .i64 212, .int .i64 219] 3)).alloc (.cells #[.int .i64 195, .int .i64 209, .int .i64 213] 3)).alloc (.cells #[.int .i64 196, .int .i64 203, .int .i64 207, .int .i64 214, .int .i64 220] 3)).alloc (.cells #[.int .i64 197] 3)) (.cells #[.int .i64 199] 3)
    rw [s8] at h
    exact (heap_push h _)
  have b9 : ((((((((((w.alloc (.cells #[.string ⟨#[204, 128]⟩, .string ⟨#[204, 129]⟩, .string ⟨#[204, 130]⟩, .string ⟨#[204, 131]⟩, .string ⟨#[204, 136]⟩, .string ⟨#[204, 138]⟩, .string ⟨#[204, 167]⟩] 9)).alloc (.cells #[.string ⟨#[65, 69, 73, 79, 85]⟩, .string ⟨#[65, 69, 73, 79, 85, 89]⟩, .string ⟨#[65, 69, 73, 79, 85]⟩, .string ⟨#[65, 78, 79]⟩, .string ⟨#[65, 69, 73, 79, 85]⟩, .string ⟨#[65]⟩, .string ⟨#[67]⟩] 9)).alloc (.cells #[.int .i64 192, .int .i64 200, .int .i64 204, .int .i64 210, .int .i64 217] 3)).alloc (.cells #[.int .i64 193, .int .i64 201, .int .i64 205, .int .i64 211, .int .i64 218, .int .i64 221] 3)).alloc (.cells #[.int .i64 194, .int .i64 202, .int .i64 206, .int .i64 212, .int .i64 219] 3)).alloc (.cells #[.int .i64 195, .int .i64 209, .int .i64 213] 3)).alloc (.cells #[.int .i64 196, .int .i64 203, .int .i64 207, .int .i64 214, .int .i64 220] 3)).alloc (.cells #[.int .i64 197] 3)).alloc (.cells #[.int .i64 199] 3)).alloc (.cells #[.slice (some ⟨w.heap.size + 1 + 1, 0, none⟩) 5 5, .slice (some ⟨w.heap.size + 1 + 1 + 1, 0, none⟩) 6 6, .slice (some ⟨w.heap.size + 1 + 1 + 1 + 1, 0, none⟩) 5 5, .slice (some ⟨w.heap.size + 1 + 1 + 1 + 1 + 1, 0, none⟩) 3 3, .slice (some ⟨w.heap.size + 1 + 1 + 1 + 1 + 1 + 1, 0, none⟩) 5 5, .slice (some ⟨w.heap.size + 1 + 1 + 1 + 1 + 1 + 1 + 1, 0, none⟩) 1 1, .slice (some ⟨w.heap.size + 1 + 1 + 1 + 1 + 1 + 1 + 1 + 1, 0, none⟩) 1 1] 25)).heap[w.heap.size + 9]? = some (.cells #[.slice (some ⟨w.heap.size + 1 + 1, 0, none⟩) 5 5, .slice (some ⟨w.heap.size + 1 + 1 + 1, 0, none⟩) 6 6, .slice (some ⟨w.heap.size + 1 + 1 + 1 + 1, 0, none⟩) 5 5, .slice (some ⟨w.heap.size + 1 + 1 + 1 + 1 + 1, 0, none⟩) 3 3, .slice (some ⟨w.heap.size + 1 + 1 + 1 + 1 + 1 + 1, 0, none⟩) 5 5, .slice (some ⟨w.heap.size + 1 + 1 + 1 + 1 + 1 + 1 + 1, 0, none⟩) 1 1, .slice (some ⟨w.heap.size + 1 + 1 + 1 + 1 + 1 + 1 + 1 + 1, 0, none⟩) 1 1] 25 (0, 0)) := by
    have h := heap_alloc_new (((((((((w.alloc (.cells #[.string ⟨#[204, 128]⟩, .string ⟨#[204, 129]⟩, .string ⟨#[204, 130]⟩, .string ⟨#[204, 131]⟩, .string ⟨#[204, 136]⟩, .string ⟨#[204, 138]⟩, .string ⟨#[204, 167]⟩] 9)).alloc (.cells #[.string ⟨#[65, 69, 73, 79, 85]⟩, .string ⟨#[65, 69, 73, 79, 85, 89]⟩, .string ⟨#[65, 69, 73, 79, 85]⟩, .string ⟨#[65, 78, 79]⟩, .string ⟨#[65, 69, 73, 79, 85]⟩, .string ⟨#[65]⟩, .string ⟨#[67]⟩] 9)).alloc (.cells #[.int .i64 192, .int .i64 200, .int .i64 204, .int .i64 210, .int .i64 217] 3)).alloc (.cells #[.int .i64 193, .int .i64 201, .int .i64 205, .int .i64 211, .int .i64 218, .int .i64 221] 3)).alloc (.cells #[.int .i64 194, .int .i64 202, .int .i64 206, .int .i64 212, .int .i64 219] 3)).alloc (.cells #[.int .i64 195, .int .i64 209, .int .i64 213] 3)).alloc (.cells #[.int .i64 196, .int .i64 203, .int .i64 207, .int .i64 214, .int .i64 220] 3)).alloc (.cells #[.int .i64 197] 3)).alloc (.cells #[.int .i64 199] 3)) (.cells #[.slice (some ⟨w.heap.size + 1 + 1, 0, none⟩) 5 5, .slice (some ⟨w.heap.size + 1 + 1 + 1, 0, none⟩) 6 6, .slice (some ⟨w.heap.size + 1 + 1 + 1 + 1, 0, none⟩) 5 5, .slice (some ⟨w.heap.size + 1 + 1 + 1 + 1 + 1, 0, none⟩) 3 3, .slice (some ⟨w.heap.size + 1 + 1 + 1 + 1 + 1 + 1, 0, none⟩) 5 5, .slice (some ⟨w.heap.size + 1 + 1 + 1 + 1 + 1 + 1 + 1, 0, none⟩) 1 1, .slice (some ⟨w.heap.size + 1 + 1 + 1 + 1 + 1 + 1 + 1 + 1, 0, none⟩) 1 1] 25)
    rw [s9] at h
    exact h
  refine ⟨tmk_of (b := w.heap.size + 2) b0 b1 b9 (fun j l hj => ?_) hk, ?_⟩
  · match j, hj with
    | 0, hj => (have e : [192, 200, 204, 210, 217] = l := Option.some.inj hj); subst e; exact b2
    | 1, hj => (have e : [193, 201, 205, 211, 218, 221] = l := Option.some.inj hj); subst e; exact b3
    | 2, hj => (have e : [194, 202, 206, 212, 219] = l := Option.some.inj hj); subst e; exact b4
    | 3, hj => (have e : [195, 209, 213] = l := Option.some.inj hj); subst e; exact b5
    | 4, hj => (have e : [196, 203, 207, 214, 220] = l := Option.some.inj hj); subst e; exact b6
    | 5, hj => (have e : [197] = l := Option.some.inj hj); subst e; exact b7
    | 6, hj => (have e : [199] = l := Option.some.inj hj); subst e; exact b8
    | j + 7, hj => exact absurd hj (by simp [cdN])
  · exact ((((((((((Below.refl _ w).alloc (Nat.le_refl _) _).alloc (by omega) _).alloc (by omega) _).alloc (by omega) _).alloc (by omega) _).alloc (by omega) _).alloc (by omega) _).alloc (by omega) _).alloc (by omega) _).alloc (by omega) _
theorem cat_list {b : UInt8} {mk : ByteArray} {l : List UInt8} (h : (⟨l.toArray⟩ : ByteArray) = mk) : (⟨#[b]⟩ ++ mk).data.toList = b :: l := by subst h; simp [ByteArray.data_append]
theorem one_small (c : Nat) : (⟨(T2.one c).toArray⟩ : ByteArray).size ≤ 100000 := by
  have h : (T2.one c).length ≤ 4 := by
    unfold T2.one
    repeat' split
    all_goals (simp only [List.length_cons, List.length_nil]; omega)
  have h2 : (⟨(T2.one c).toArray⟩ : ByteArray).size = (T2.one c).length := by simp [ByteArray.size]
  omega
theorem size_1 (b : UInt8) : (⟨#[b]⟩ : ByteArray).size = 1 := rfl
set_option maxHeartbeats 8000000 in
set_option maxRecDepth 100000 in
theorem lawK_any {c : Nat} (hc : c < 256) (m : Int) (w : World) : Calls Try.prog 3 #[.int .u8 (c : Int), .int .i64 m] w fun e w' => e = .returned (.bool true) ∧ Below w.heap.size w w' := by
  obtain ⟨R0, hR0⟩ : ∃ R0, rootP = R0 := ⟨_, rfl⟩
  have HR0 := Lib.hid hR0
  obtain ⟨m16, hm16⟩ : ∃ q : Nat, (q : Int) = m % 65536 := ⟨(m % 65536).toNat, by omega⟩
  have hand := and_65535 m
  rw [← hm16] at hand
  obtain ⟨k, hkk⟩ : ∃ k, m16 % 7 = k := ⟨_, rfl⟩
  have hk7 : k < 7 := by omega
  have hrem : (m16 : Int).tmod 7 = (k : Int) := by rw [Int.tmod_eq_emod_of_nonneg (by omega)]; omega
  obtain ⟨hl1, hl2, hl3⟩ := marks_len k hk7
  obtain ⟨n, hn⟩ : ∃ n, (whK k).length = n := ⟨_, rfl⟩
  rw [hn] at hl1 hl2 hl3
  obtain ⟨i, hi⟩ : ∃ i, c % n = i := ⟨_, rfl⟩
  have hin : i < n := by rw [← hi]; exact Nat.mod_lt _ (by omega)
  have hrem2 : (c : Int).tmod (n : Int) = (i : Int) := by rw [Int.tmod_eq_emod_of_nonneg (by omega), ← hi]; rfl
  have HN := Lib.hid hn
  go_enter Try.func3, Try.ntmps3
  go_upto_region 7 with (go_at_call 4; refine (root_any _).mono ?_; rintro e w1 ⟨p, rfl, ht, hb⟩; rw [HR0.out] at ht; have HT := Lib.hid (ht.mono (G := anyB) fun _ _ => trivial); have HB1 := Lib.hid hb; clear ht hb)
  obtain ⟨htk, hbl⟩ := lay_tmk w1 hk7
  have HTK := Lib.hid htk
  have HBL := Lib.hid hbl
  clear htk hbl
  generalize ((((((((((w1.alloc (.cells #[.string ⟨#[204, 128]⟩, .string ⟨#[204, 129]⟩, .string ⟨#[204, 130]⟩, .string ⟨#[204, 131]⟩, .string ⟨#[204, 136]⟩, .string ⟨#[204, 138]⟩, .string ⟨#[204, 167]⟩] 9)).alloc (.cells #[.string ⟨#[65, 69, 73, 79, 85]⟩, .string ⟨#[65, 69, 73, 79, 85, 89]⟩, .string ⟨#[65, 69, 73, 79, 85]⟩, .string ⟨#[65, 78, 79]⟩, .string ⟨#[65, 69, 73, 79, 85]⟩, .string ⟨#[65]⟩, .string ⟨#[67]⟩] 9)).alloc (.cells #[.int .i64 192, .int .i64 200, .int .i64 204, .int .i64 210, .int .i64 217] 3)).alloc (.cells #[.int .i64 193, .int .i64 201, .int .i64 205, .int .i64 211, .int .i64 218, .int .i64 221] 3)).alloc (.cells #[.int .i64 194, .int .i64 202, .int .i64 206, .int .i64 212, .int .i64 219] 3)).alloc (.cells #[.int .i64 195, .int .i64 209, .int .i64 213] 3)).alloc (.cells #[.int .i64 196, .int .i64 203, .int .i64 207, .int .i64 214, .int .i64 220] 3)).alloc (.cells #[.int .i64 197] 3)).alloc (.cells #[.int .i64 199] 3)).alloc (.cells #[.slice (some ⟨w1.heap.size + 1 + 1, 0, none⟩) 5 5, .slice (some ⟨w1.heap.size + 1 + 1 + 1, 0, none⟩) 6 6, .slice (some ⟨w1.heap.size + 1 + 1 + 1 + 1, 0, none⟩) 5 5, .slice (some ⟨w1.heap.size + 1 + 1 + 1 + 1 + 1, 0, none⟩) 3 3, .slice (some ⟨w1.heap.size + 1 + 1 + 1 + 1 + 1 + 1, 0, none⟩) 5 5, .slice (some ⟨w1.heap.size + 1 + 1 + 1 + 1 + 1 + 1 + 1, 0, none⟩) 1 1, .slice (some ⟨w1.heap.size + 1 + 1 + 1 + 1 + 1 + 1 + 1 + 1, 0, none⟩) 1 1] 25)) = W at HTK HBL ⊢
  have HT2 := Lib.hid (HT.out.below HBL.out (Nat.le_refl _))
  have HB2 := Lib.hid (HB1.out.trans (HBL.out.mono HB1.out.size))
  generalize w1.heap.size + 1 + 1 + 1 + 1 + 1 + 1 + 1 + 1 + 1 = b3 at HTK ⊢
  generalize w1.heap.size + 1 = b2 at HTK ⊢
  generalize w1.heap.size = b1 at HTK HBL ⊢
  obtain ⟨c1, c2, g, c3, c4⟩ := HTK.out
  have c5 := c4 i (by omega)
  rw [hl1] at c3
  obtain ⟨cd, hcd⟩ : ∃ x, (cdK k).getD i 0 = x := ⟨_, rfl⟩
  obtain ⟨b0, hb0⟩ : ∃ x, (whK k).getD i 0 = x := ⟨_, rfl⟩
  have hcut := fun w => run_cut (l := whK k) (i := i) (by omega) w
  rw [hcd] at c5
  rw [hb0] at hcut
  obtain ⟨mk, hmk⟩ : ∃ x : ByteArray, (⟨(mkK k).toArray⟩ : ByteArray) = x := ⟨_, rfl⟩
  obtain ⟨wh, hwh⟩ : ∃ x : ByteArray, (⟨(whK k).toArray⟩ : ByteArray) = x := ⟨_, rfl⟩
  have hsz : wh.size = n := by rw [← hwh, ← hn]; simp [ByteArray.size]
  rw [hmk] at c1
  rw [hwh] at c2 hcut
  rw [← hsz] at hrem2
  have hk7I : (k : Int) < 7 := by omega
  have hnz : ¬ (wh.size : Int) = 0 := by omega
  have hall := marks_all k hk7 i (by omega)
  have HALL := Lib.hid hall
  have HB0 := Lib.hid hb0
  have HCD := Lib.hid hcd
  have HMK := Lib.hid hmk
  have HC1 := Lib.hid c1
  have HC2 := Lib.hid c2
  have HC3 := Lib.hid c3
  have HC5 := Lib.hid c5
  have HCUT := Lib.hid hcut
  have hiI : (i : Int) < (n : Int) := by omega
  have HW1 : Hid (IntKind.i64.wrap ((i : Int) + 1) = (i : Int) + 1) := IntWalk.i64_in _ (by omega)
  have h128 := and_128 c hc
  clear hm16 hkk hl1 hl2 hl3 hn hi c4 hcut hcd hb0 hmk hwh hsz hall hR0
  obtain ⟨gr, hgr⟩ : ∃ b, decide (128 ≤ c) = b := ⟨_, rfl⟩
  cases gr with
  | false =>
    have hc128 : bits .and .u8 (c : Int) 128 = 0 := by rw [h128, if_neg (by simpa using hgr)]
    clear h128 hgr
    go_wp2
    clear c1 c2 c3 c5
    refine any_region (m := 16) [43, 44, 45, 46, 47, 48, 49, 50, 51, 52, 53, 54, 55, 56, 57, 12] [SV.eq (.slice (some ⟨b2, 0, none⟩) 7 7), SV.eq (.int .i64 (k : Int)), SV.eq (.pointer (some ⟨b2, k, none⟩)), SV.eq (.string wh), SV.eq (.int .i64 (i : Int)), SV.eq (.int .i64 (i : Int)), SV.eq (.int .i64 ((i : Int) + 1)), SV.eq (.string ⟨#[b0]⟩), SV.eq (.slice (some ⟨b3, 0, none⟩) 7 7), SV.eq (.int .i64 (k : Int)), SV.eq (.pointer (some ⟨b3, k, none⟩)), SV.eq (.slice (some ⟨g, 0, none⟩) n n), SV.eq (.int .i64 (i : Int)), SV.eq (.pointer (some ⟨g, i, none⟩)), SV.eq (.int .i64 (cd : Int)), SV.eq (.string ⟨#[b0]⟩)] (by kernel_rfl) (by kernel_rfl) ?_ ?_
    · refine ⟨⟨⟨⟨⟨⟨⟨⟨⟨⟨⟨⟨⟨⟨⟨⟨trivial, ?_⟩, ?_⟩, ?_⟩, ?_⟩, ?_⟩, ?_⟩, ?_⟩, ?_⟩, ?_⟩, ?_⟩, ?_⟩, ?_⟩, ?_⟩, ?_⟩, ?_⟩, ?_⟩
      · refine OpIs.mk rfl ?_
        intro vs w1 hb hd K hK
        simp only [frameV, List.setIfInBounds_toArray, List.set_cons_zero, List.set_cons_succ, List.getD_cons_zero, List.getD_cons_succ] at hK ⊢
        have HK := Lib.hid hK
        clear hK
        go_simp
        exact HK.out _ _ rfl (Below.refl _ _)
      · refine OpIs.mk rfl ?_
        intro vs w1 hb hd K hK
        simp only [frameV, List.setIfInBounds_toArray, List.set_cons_zero, List.set_cons_succ, List.getD_cons_zero, List.getD_cons_succ] at hK ⊢
        have HK := Lib.hid hK
        clear hK
        go_simp
        exact HK.out _ _ rfl (Below.refl _ _)
      · refine OpIs.mk rfl ?_
        intro vs w1 hb hd K hK
        have d0 : vs 0 = .slice (some ⟨b2, 0, none⟩) 7 7 := hd 0 (by kernel_rfl)
        have d1 : vs 1 = .int .i64 (k : Int) := hd 1 (by kernel_rfl)
        simp only [frameV, List.setIfInBounds_toArray, List.set_cons_zero, List.set_cons_succ, List.getD_cons_zero, List.getD_cons_succ] at hK ⊢
        simp only [d0, d1] at hK ⊢
        have HK := Lib.hid hK
        clear hK
        go_simp
        exact HK.out _ _ rfl (Below.refl _ _)
      · refine OpIs.mk rfl ?_
        intro vs w1 hb hd K hK
        have d2 : vs 2 = .pointer (some ⟨b2, k, none⟩) := hd 2 (by kernel_rfl)
        have z1 := cell_call hb HC2.out
        simp only [frameV, List.setIfInBounds_toArray, List.set_cons_zero, List.set_cons_succ, List.getD_cons_zero, List.getD_cons_succ] at hK ⊢
        simp only [d2] at hK ⊢
        have HK := Lib.hid hK
        clear hK
        go_simp
        exact HK.out _ _ rfl (Below.refl _ _)
      · refine OpIs.mk rfl ?_
        intro vs w1 hb hd K hK
        simp only [frameV, List.setIfInBounds_toArray, List.set_cons_zero, List.set_cons_succ, List.getD_cons_zero, List.getD_cons_succ] at hK ⊢
        have HK := Lib.hid hK
        clear hK
        go_simp
        exact HK.out _ _ rfl (Below.refl _ _)
      · refine OpIs.mk rfl ?_
        intro vs w1 hb hd K hK
        simp only [frameV, List.setIfInBounds_toArray, List.set_cons_zero, List.set_cons_succ, List.getD_cons_zero, List.getD_cons_succ] at hK ⊢
        have HK := Lib.hid hK
        clear hK
        go_simp
        exact HK.out _ _ rfl (Below.refl _ _)
      · refine OpIs.mk rfl ?_
        intro vs w1 hb hd K hK
        have d5 : vs 5 = .int .i64 (i : Int) := hd 5 (by kernel_rfl)
        have z1 := HW1.out
        simp only [frameV, List.setIfInBounds_toArray, List.set_cons_zero, List.set_cons_succ, List.getD_cons_zero, List.getD_cons_succ] at hK ⊢
        simp only [d5] at hK ⊢
        have HK := Lib.hid hK
        clear hK
        go_simp
        exact HK.out _ _ rfl (Below.refl _ _)
      · refine OpIs.mk rfl ?_
        intro vs w1 hb hd K hK
        have d3 : vs 3 = .string wh := hd 3 (by kernel_rfl)
        have d4 : vs 4 = .int .i64 (i : Int) := hd 4 (by kernel_rfl)
        have d6 : vs 6 = .int .i64 ((i : Int) + 1) := hd 6 (by kernel_rfl)
        have z1 := HCUT.out
        simp only [frameV, List.setIfInBounds_toArray, List.set_cons_zero, List.set_cons_succ, List.getD_cons_zero, List.getD_cons_succ] at hK ⊢
        simp only [d3, d4, d6] at hK ⊢
        have HK := Lib.hid hK
        clear hK
        go_simp
        exact HK.out _ _ rfl (Below.refl _ _)
      · refine OpIs.mk rfl ?_
        intro vs w1 hb hd K hK
        simp only [frameV, List.setIfInBounds_toArray, List.set_cons_zero, List.set_cons_succ, List.getD_cons_zero, List.getD_cons_succ] at hK ⊢
        have HK := Lib.hid hK
        clear hK
        go_simp
        exact HK.out _ _ rfl (Below.refl _ _)
      · refine OpIs.mk rfl ?_
        intro vs w1 hb hd K hK
        simp only [frameV, List.setIfInBounds_toArray, List.set_cons_zero, List.set_cons_succ, List.getD_cons_zero, List.getD_cons_succ] at hK ⊢
        have HK := Lib.hid hK
        clear hK
        go_simp
        exact HK.out _ _ rfl (Below.refl _ _)
      · refine OpIs.mk rfl ?_
        intro vs w1 hb hd K hK
        have d8 : vs 8 = .slice (some ⟨b3, 0, none⟩) 7 7 := hd 8 (by kernel_rfl)
        have d9 : vs 9 = .int .i64 (k : Int) := hd 9 (by kernel_rfl)
        simp only [frameV, List.setIfInBounds_toArray, List.set_cons_zero, List.set_cons_succ, List.getD_cons_zero, List.getD_cons_succ] at hK ⊢
        simp only [d8, d9] at hK ⊢
        have HK := Lib.hid hK
        clear hK
        go_simp
        exact HK.out _ _ rfl (Below.refl _ _)
      · refine OpIs.mk rfl ?_
        intro vs w1 hb hd K hK
        have d10 : vs 10 = .pointer (some ⟨b3, k, none⟩) := hd 10 (by kernel_rfl)
        have z1 := cell_call hb HC3.out
        simp only [frameV, List.setIfInBounds_toArray, List.set_cons_zero, List.set_cons_succ, List.getD_cons_zero, List.getD_cons_succ] at hK ⊢
        simp only [d10] at hK ⊢
        have HK := Lib.hid hK
        clear hK
        go_simp
        exact HK.out _ _ rfl (Below.refl _ _)
      · refine OpIs.mk rfl ?_
        intro vs w1 hb hd K hK
        simp only [frameV, List.setIfInBounds_toArray, List.set_cons_zero, List.set_cons_succ, List.getD_cons_zero, List.getD_cons_succ] at hK ⊢
        have HK := Lib.hid hK
        clear hK
        go_simp
        exact HK.out _ _ rfl (Below.refl _ _)
      · refine OpIs.mk rfl ?_
        intro vs w1 hb hd K hK
        have d11 : vs 11 = .slice (some ⟨g, 0, none⟩) n n := hd 11 (by kernel_rfl)
        have d12 : vs 12 = .int .i64 (i : Int) := hd 12 (by kernel_rfl)
        simp only [frameV, List.setIfInBounds_toArray, List.set_cons_zero, List.set_cons_succ, List.getD_cons_zero, List.getD_cons_succ] at hK ⊢
        simp only [d11, d12] at hK ⊢
        have HK := Lib.hid hK
        clear hK
        go_simp
        exact HK.out _ _ rfl (Below.refl _ _)
      · refine OpIs.mk rfl ?_
        intro vs w1 hb hd K hK
        have d13 : vs 13 = .pointer (some ⟨g, i, none⟩) := hd 13 (by kernel_rfl)
        have z1 := cell_call hb HC5.out
        simp only [frameV, List.setIfInBounds_toArray, List.set_cons_zero, List.set_cons_succ, List.getD_cons_zero, List.getD_cons_succ] at hK ⊢
        simp only [d13] at hK ⊢
        have HK := Lib.hid hK
        clear hK
        go_simp
        exact HK.out _ _ rfl (Below.refl _ _)
      · refine OpIs.mk rfl ?_
        intro vs w1 hb hd K hK
        have d7 : vs 7 = .string ⟨#[b0]⟩ := hd 7 (by kernel_rfl)
        simp only [frameV, List.setIfInBounds_toArray, List.set_cons_zero, List.set_cons_succ, List.getD_cons_zero, List.getD_cons_succ] at hK ⊢
        simp only [d7] at hK ⊢
        have HK := Lib.hid hK
        clear hK
        go_simp
        exact HK.out _ _ rfl (Below.refl _ _)
    · intro vs w3 hb hd
      have d14 : vs 14 = .int .i64 (cd : Int) := hd 14 (by omega)
      have d15 : vs 15 = .string ⟨#[b0]⟩ := hd 15 (by omega)
      have HB3 := Lib.hid (HB2.out.trans (hb.mono HB2.out.size))
      have HT3 := Lib.hid (HT2.out.below hb (Nat.le_refl _))
      have c1 := cell_call hb HC1.out
      have HM1 := Lib.hid c1
      simp only [frameV, List.setIfInBounds_toArray, List.set_cons_zero, List.set_cons_succ, List.drop_succ_cons, List.drop_zero, d14, d15]
      clear hb hd d14 d15
      obtain ⟨⟨e2, e3, e4, e5⟩, e6, e7, e8, e9⟩ := HALL.out false
      have hcdB : cdB k i false = cd := by unfold cdB; rw [HCD.out]; simp
      have hltB : ltB k i false = b0.toNat := by unfold ltB; rw [HB0.out]; simp
      rw [hcdB] at e3 e8
      rw [hltB] at e7
      obtain ⟨x, y, hxy⟩ := two_of e2
      rw [hxy] at e3 e4 e5 e6
      unfold xyL at hxy
      rw [hltB] at hxy
      rw [HR0.out] at e3 hxy
      have hms : mk.size = 2 := by rw [← HMK.out, ← e9]; simp [ByteArray.size]
      have hy32 : y < 4294967296 ∧ x < 4294967296 := by simp at e6; omega
      have e4' : y / 65536 = 0 := by simpa using e4
      have e5' : 32 < y / 256 % 256 := by simpa using e5
      obtain ⟨q0, hq0⟩ : ∃ q, y / 256 % 256 = q := ⟨_, rfl⟩
      obtain ⟨p0, hp0⟩ : ∃ q, y / 65536 = q := ⟨_, rfl⟩
      rw [hq0] at e5'
      rw [hp0] at e4'
      have CW1 := Lib.hid (fun w => E3.weight_1' hp0 hy32.1 w)
      have CW2 := Lib.hid (fun w => E3.weight_2' hq0 hy32.1 w)
      have HQ0 : Hid ((32 : Int) < (q0 : Int)) := by show _ < _; omega
      have HP0 : Hid ((p0 : Int) = 0) := by show _ = _; omega
      have EA : Hid (elsP R0 (T2.sgs (⟨#[b0]⟩ ++ mk).data.toList) = [x, y]) := by show _ = _; rw [cat_list HMK.out, ← hxy]; first | done | simp
      have EB : Hid (elsP R0 (T2.sgs (⟨(T2.one cd).toArray⟩ : ByteArray).data.toList) = [x, y]) := by show _ = _; rw [← e3]
      have S1 : Hid (((⟨#[b0]⟩ : ByteArray) ++ mk).size ≤ 100000) := by show _ ≤ _; rw [ByteArray.size_append, size_1, hms]; omega
      have hmx : (⟨#[b0]⟩ : ByteArray).size + mk.size ≤ maxLen := by rw [size_1, hms]; simp only [maxLen]; omega
      have hmx2 : 1 + mk.size ≤ 9223372036854775807 := by omega
      have hmx3 : ¬ 9223372036854775807 < 1 + mk.size := by omega
      have CONE := Lib.hid (fun w => T2.one_any cd w (by omega))
      have HT4 := HT3
      have HB4 := HB3
      have S2 : Hid ((⟨(T2.one (cd)).toArray⟩ : ByteArray).size ≤ 100000) := by show _ ≤ _; exact one_small _
      have HXS := Lib.hid hy32
      clear e2 e3 e4 e5 e6 e8 e9 hcdB hltB hxy hy32 e4' e5' hq0 hp0 hms
      have t1 : True := trivial
      go_wp2_with (first
        | (go_at_call 5; have _t := t1; refine (els_two HT4.out _ S1.out EA.out).mono ?_; rintro e w5 ⟨g1, q1, rfl, x1, x2, hb⟩; have HT5 := Lib.hid (HT4.out.below hb (Nat.le_refl _)); have HB5 := Lib.hid (HB4.out.trans (hb.mono HB4.out.size)); clear hb _t t1)
        | (go_at_call 6; refine (CONE.out _).mono ?_; rintro e w6 ⟨rfl, hb⟩; have z1 := cell_call hb x1; have z2 := cell_call hb x2; have HT6 := Lib.hid (HT5.out.below hb (Nat.le_refl _)); have HB6 := Lib.hid (HB5.out.trans (hb.mono HB5.out.size)); clear hb x1 x2)
        | (go_at_call 5; refine (els_two HT6.out _ S2.out EB.out).mono ?_; rintro e w7 ⟨g2, q2, rfl, y1, y2, hb⟩; have HZ1 := Lib.hid (cell_call hb z1); have HZ2 := Lib.hid (cell_call hb z2); have HY1 := Lib.hid y1; have HY2 := Lib.hid y2; have HB7 := Lib.hid (HB6.out.trans (hb.mono HB6.out.size)); clear hb z1 z2 y1 y2))
      refine any_region (m := 33) [86, 87, 88, 89, 90, 91, 92, 93, 94, 95, 96, 97, 98, 99, 100, 101, 102, 103, 104, 105, 106, 107, 108, 109, 110, 111, 112, 113, 114, 115, 116, 117, 118] [SV.eq (.slice (some ⟨g1, 0, none⟩) 2 q1), SV.eq (.pointer (some ⟨g1, 0, none⟩)), SV.eq (.int .u32 (x : Int)), SV.eq (.slice (some ⟨g2, 0, none⟩) 2 q2), SV.eq (.pointer (some ⟨g2, 0, none⟩)), SV.eq (.int .u32 (x : Int)), SV.eq (.bool true), SV.eq (.bool true), SV.eq (.slice (some ⟨g1, 0, none⟩) 2 q1), SV.eq (.pointer (some ⟨g1, 1, none⟩)), SV.eq (.int .u32 (y : Int)), SV.eq (.slice (some ⟨g2, 0, none⟩) 2 q2), SV.eq (.pointer (some ⟨g2, 1, none⟩)), SV.eq (.int .u32 (y : Int)), SV.eq (.bool true), SV.eq (.bool true), SV.eq (.bool true), SV.eq (.slice (some ⟨g1, 0, none⟩) 2 q1), SV.eq (.pointer (some ⟨g1, 1, none⟩)), SV.eq (.int .u32 (y : Int)), SV.eq (.int .i64 (p0 : Int)), SV.eq (.bool true), SV.eq (.bool true), SV.eq (.bool true), SV.eq (.slice (some ⟨g1, 0, none⟩) 2 q1), SV.eq (.pointer (some ⟨g1, 1, none⟩)), SV.eq (.int .u32 (y : Int)), SV.eq (.int .i64 (q0 : Int)), SV.eq (.bool true), SV.eq (.bool true), SV.eq (.bool true), SV.eq (.bool true), SV.eq (.bool true)] (by kernel_rfl) (by kernel_rfl) ?_ ?_
      · refine ⟨⟨⟨⟨⟨⟨⟨⟨⟨⟨⟨⟨⟨⟨⟨⟨⟨⟨⟨⟨⟨⟨⟨⟨⟨⟨⟨⟨⟨⟨⟨⟨⟨trivial, ?_⟩, ?_⟩, ?_⟩, ?_⟩, ?_⟩, ?_⟩, ?_⟩, ?_⟩, ?_⟩, ?_⟩, ?_⟩, ?_⟩, ?_⟩, ?_⟩, ?_⟩, ?_⟩, ?_⟩, ?_⟩, ?_⟩, ?_⟩, ?_⟩, ?_⟩, ?_⟩, ?_⟩, ?_⟩, ?_⟩, ?_⟩, ?_⟩, ?_⟩, ?_⟩, ?_⟩, ?_⟩, ?_⟩
        · refine OpIs.mk rfl ?_
          intro vs w1 hb hd K hK
          simp only [frameV, List.setIfInBounds_toArray, List.set_cons_zero, List.set_cons_succ, List.getD_cons_zero, List.getD_cons_succ] at hK ⊢
          have HK := Lib.hid hK
          clear hK
          go_simp
          exact HK.out _ _ rfl (Below.refl _ _)
        · refine OpIs.mk rfl ?_
          intro vs w1 hb hd K hK
          have d0 : vs 0 = .slice (some ⟨g1, 0, none⟩) 2 q1 := hd 0 (by kernel_rfl)
          simp only [frameV, List.setIfInBounds_toArray, List.set_cons_zero, List.set_cons_succ, List.getD_cons_zero, List.getD_cons_succ] at hK ⊢
          simp only [d0] at hK ⊢
          have HK := Lib.hid hK
          clear hK
          go_simp
          exact HK.out _ _ rfl (Below.refl _ _)
        · refine OpIs.mk rfl ?_
          intro vs w1 hb hd K hK
          have d1 : vs 1 = .pointer (some ⟨g1, 0, none⟩) := hd 1 (by kernel_rfl)
          have z1 := cell_call hb HZ1.out
          simp only [frameV, List.setIfInBounds_toArray, List.set_cons_zero, List.set_cons_succ, List.getD_cons_zero, List.getD_cons_succ] at hK ⊢
          simp only [d1] at hK ⊢
          have HK := Lib.hid hK
          clear hK
          go_simp
          exact HK.out _ _ rfl (Below.refl _ _)
        · refine OpIs.mk rfl ?_
          intro vs w1 hb hd K hK
          simp only [frameV, List.setIfInBounds_toArray, List.set_cons_zero, List.set_cons_succ, List.getD_cons_zero, List.getD_cons_succ] at hK ⊢
          have HK := Lib.hid hK
          clear hK
          go_simp
          exact HK.out _ _ rfl (Below.refl _ _)
        · refine OpIs.mk rfl ?_
          intro vs w1 hb hd K hK
          have d3 : vs 3 = .slice (some ⟨g2, 0, none⟩) 2 q2 := hd 3 (by kernel_rfl)
          simp only [frameV, List.setIfInBounds_toArray, List.set_cons_zero, List.set_cons_succ, List.getD_cons_zero, List.getD_cons_succ] at hK ⊢
          simp only [d3] at hK ⊢
          have HK := Lib.hid hK
          clear hK
          go_simp
          exact HK.out _ _ rfl (Below.refl _ _)
        · refine OpIs.mk rfl ?_
          intro vs w1 hb hd K hK
          have d4 : vs 4 = .pointer (some ⟨g2, 0, none⟩) := hd 4 (by kernel_rfl)
          have z1 := cell_call hb HY1.out
          simp only [frameV, List.setIfInBounds_toArray, List.set_cons_zero, List.set_cons_succ, List.getD_cons_zero, List.getD_cons_succ] at hK ⊢
          simp only [d4] at hK ⊢
          have HK := Lib.hid hK
          clear hK
          go_simp
          exact HK.out _ _ rfl (Below.refl _ _)
        · refine OpIs.mk rfl ?_
          intro vs w1 hb hd K hK
          have d2 : vs 2 = .int .u32 (x : Int) := hd 2 (by kernel_rfl)
          have d5 : vs 5 = .int .u32 (x : Int) := hd 5 (by kernel_rfl)
          simp only [frameV, List.setIfInBounds_toArray, List.set_cons_zero, List.set_cons_succ, List.getD_cons_zero, List.getD_cons_succ] at hK ⊢
          simp only [d2, d5] at hK ⊢
          have HK := Lib.hid hK
          clear hK
          go_simp
          exact HK.out _ _ rfl (Below.refl _ _)
        · refine OpIs.mk rfl ?_
          intro vs w1 hb hd K hK
          have d6 : vs 6 = .bool true := hd 6 (by kernel_rfl)
          simp only [frameV, List.setIfInBounds_toArray, List.set_cons_zero, List.set_cons_succ, List.getD_cons_zero, List.getD_cons_succ] at hK ⊢
          simp only [d6] at hK ⊢
          have HK := Lib.hid hK
          clear hK
          go_simp
          exact HK.out _ _ rfl (Below.refl _ _)
        · refine OpIs.mk rfl ?_
          intro vs w1 hb hd K hK
          have d7 : vs 7 = .bool true := hd 7 (by kernel_rfl)
          simp only [frameV, List.setIfInBounds_toArray, List.set_cons_zero, List.set_cons_succ, List.getD_cons_zero, List.getD_cons_succ] at hK ⊢
          simp only [d7] at hK ⊢
          have HK := Lib.hid hK
          clear hK
          go_simp
          exact HK.out _ _ rfl (Below.refl _ _)
        · refine OpIs.mk rfl ?_
          intro vs w1 hb hd K hK
          have d8 : vs 8 = .slice (some ⟨g1, 0, none⟩) 2 q1 := hd 8 (by kernel_rfl)
          have d7 : vs 7 = .bool true := hd 7 (by kernel_rfl)
          simp only [frameV, List.setIfInBounds_toArray, List.set_cons_zero, List.set_cons_succ, List.getD_cons_zero, List.getD_cons_succ] at hK ⊢
          simp only [d8, d7] at hK ⊢
          have HK := Lib.hid hK
          clear hK
          go_simp
          exact HK.out _ _ rfl (Below.refl _ _)
        · refine OpIs.mk rfl ?_
          intro vs w1 hb hd K hK
          have d9 : vs 9 = .pointer (some ⟨g1, 1, none⟩) := hd 9 (by kernel_rfl)
          have d7 : vs 7 = .bool true := hd 7 (by kernel_rfl)
          have z1 := cell_call hb HZ2.out
          simp only [frameV, List.setIfInBounds_toArray, List.set_cons_zero, List.set_cons_succ, List.getD_cons_zero, List.getD_cons_succ] at hK ⊢
          simp only [d9, d7] at hK ⊢
          have HK := Lib.hid hK
          clear hK
          go_simp
          exact HK.out _ _ rfl (Below.refl _ _)
        · refine OpIs.mk rfl ?_
          intro vs w1 hb hd K hK
          have d7 : vs 7 = .bool true := hd 7 (by kernel_rfl)
          simp only [frameV, List.setIfInBounds_toArray, List.set_cons_zero, List.set_cons_succ, List.getD_cons_zero, List.getD_cons_succ] at hK ⊢
          simp only [d7] at hK ⊢
          have HK := Lib.hid hK
          clear hK
          go_simp
          exact HK.out _ _ rfl (Below.refl _ _)
        · refine OpIs.mk rfl ?_
          intro vs w1 hb hd K hK
          have d11 : vs 11 = .slice (some ⟨g2, 0, none⟩) 2 q2 := hd 11 (by kernel_rfl)
          have d7 : vs 7 = .bool true := hd 7 (by kernel_rfl)
          simp only [frameV, List.setIfInBounds_toArray, List.set_cons_zero, List.set_cons_succ, List.getD_cons_zero, List.getD_cons_succ] at hK ⊢
          simp only [d11, d7] at hK ⊢
          have HK := Lib.hid hK
          clear hK
          go_simp
          exact HK.out _ _ rfl (Below.refl _ _)
        · refine OpIs.mk rfl ?_
          intro vs w1 hb hd K hK
          have d12 : vs 12 = .pointer (some ⟨g2, 1, none⟩) := hd 12 (by kernel_rfl)
          have d7 : vs 7 = .bool true := hd 7 (by kernel_rfl)
          have z1 := cell_call hb HY2.out
          simp only [frameV, List.setIfInBounds_toArray, List.set_cons_zero, List.set_cons_succ, List.getD_cons_zero, List.getD_cons_succ] at hK ⊢
          simp only [d12, d7] at hK ⊢
          have HK := Lib.hid hK
          clear hK
          go_simp
          exact HK.out _ _ rfl (Below.refl _ _)
        · refine OpIs.mk rfl ?_
          intro vs w1 hb hd K hK
          have d10 : vs 10 = .int .u32 (y : Int) := hd 10 (by kernel_rfl)
          have d13 : vs 13 = .int .u32 (y : Int) := hd 13 (by kernel_rfl)
          have d7 : vs 7 = .bool true := hd 7 (by kernel_rfl)
          simp only [frameV, List.setIfInBounds_toArray, List.set_cons_zero, List.set_cons_succ, List.getD_cons_zero, List.getD_cons_succ] at hK ⊢
          simp only [d10, d13, d7] at hK ⊢
          have HK := Lib.hid hK
          clear hK
          go_simp
          exact HK.out _ _ rfl (Below.refl _ _)
        · refine OpIs.mk rfl ?_
          intro vs w1 hb hd K hK
          have d7 : vs 7 = .bool true := hd 7 (by kernel_rfl)
          have d14 : vs 14 = .bool true := hd 14 (by kernel_rfl)
          simp only [frameV, List.setIfInBounds_toArray, List.set_cons_zero, List.set_cons_succ, List.getD_cons_zero, List.getD_cons_succ] at hK ⊢
          simp only [d7, d14] at hK ⊢
          have HK := Lib.hid hK
          clear hK
          go_simp
          exact HK.out _ _ rfl (Below.refl _ _)
        · refine OpIs.mk rfl ?_
          intro vs w1 hb hd K hK
          have d15 : vs 15 = .bool true := hd 15 (by kernel_rfl)
          simp only [frameV, List.setIfInBounds_toArray, List.set_cons_zero, List.set_cons_succ, List.getD_cons_zero, List.getD_cons_succ] at hK ⊢
          simp only [d15] at hK ⊢
          have HK := Lib.hid hK
          clear hK
          go_simp
          exact HK.out _ _ rfl (Below.refl _ _)
        · refine OpIs.mk rfl ?_
          intro vs w1 hb hd K hK
          have d16 : vs 16 = .bool true := hd 16 (by kernel_rfl)
          simp only [frameV, List.setIfInBounds_toArray, List.set_cons_zero, List.set_cons_succ, List.getD_cons_zero, List.getD_cons_succ] at hK ⊢
          simp only [d16] at hK ⊢
          have HK := Lib.hid hK
          clear hK
          go_simp
          exact HK.out _ _ rfl (Below.refl _ _)
        · refine OpIs.mk rfl ?_
          intro vs w1 hb hd K hK
          have d17 : vs 17 = .slice (some ⟨g1, 0, none⟩) 2 q1 := hd 17 (by kernel_rfl)
          have d16 : vs 16 = .bool true := hd 16 (by kernel_rfl)
          simp only [frameV, List.setIfInBounds_toArray, List.set_cons_zero, List.set_cons_succ, List.getD_cons_zero, List.getD_cons_succ] at hK ⊢
          simp only [d17, d16] at hK ⊢
          have HK := Lib.hid hK
          clear hK
          go_simp
          exact HK.out _ _ rfl (Below.refl _ _)
        · refine OpIs.mk rfl ?_
          intro vs w1 hb hd K hK
          have d18 : vs 18 = .pointer (some ⟨g1, 1, none⟩) := hd 18 (by kernel_rfl)
          have d16 : vs 16 = .bool true := hd 16 (by kernel_rfl)
          have z1 := cell_call hb HZ2.out
          simp only [frameV, List.setIfInBounds_toArray, List.set_cons_zero, List.set_cons_succ, List.getD_cons_zero, List.getD_cons_succ] at hK ⊢
          simp only [d18, d16] at hK ⊢
          have HK := Lib.hid hK
          clear hK
          go_simp
          exact HK.out _ _ rfl (Below.refl _ _)
        · refine OpIs.mk rfl ?_
          intro vs w1 hb hd K hK
          have d19 : vs 19 = .int .u32 (y : Int) := hd 19 (by kernel_rfl)
          have d16 : vs 16 = .bool true := hd 16 (by kernel_rfl)
          simp only [frameV, List.setIfInBounds_toArray, List.set_cons_zero, List.set_cons_succ, List.getD_cons_zero, List.getD_cons_succ] at hK ⊢
          simp only [d19, d16] at hK ⊢
          have HK := Lib.hid hK
          clear hK
          go_simp
          go_at_call 7
          refine (CW1.out _).mono ?_
          rintro q w8 ⟨rfl, rfl⟩
          exact HK.out _ _ rfl (Below.refl _ _)
        · refine OpIs.mk rfl ?_
          intro vs w1 hb hd K hK
          have d20 : vs 20 = .int .i64 (p0 : Int) := hd 20 (by kernel_rfl)
          have d16 : vs 16 = .bool true := hd 16 (by kernel_rfl)
          have z1 : ((p0 : Int) == 0) = true := by rw [HP0.out]; rfl
          simp only [frameV, List.setIfInBounds_toArray, List.set_cons_zero, List.set_cons_succ, List.getD_cons_zero, List.getD_cons_succ] at hK ⊢
          simp only [d20, d16] at hK ⊢
          have HK := Lib.hid hK
          clear hK
          go_simp
          exact HK.out _ _ rfl (Below.refl _ _)
        · refine OpIs.mk rfl ?_
          intro vs w1 hb hd K hK
          have d16 : vs 16 = .bool true := hd 16 (by kernel_rfl)
          have d21 : vs 21 = .bool true := hd 21 (by kernel_rfl)
          simp only [frameV, List.setIfInBounds_toArray, List.set_cons_zero, List.set_cons_succ, List.getD_cons_zero, List.getD_cons_succ] at hK ⊢
          simp only [d16, d21] at hK ⊢
          have HK := Lib.hid hK
          clear hK
          go_simp
          exact HK.out _ _ rfl (Below.refl _ _)
        · refine OpIs.mk rfl ?_
          intro vs w1 hb hd K hK
          have d22 : vs 22 = .bool true := hd 22 (by kernel_rfl)
          simp only [frameV, List.setIfInBounds_toArray, List.set_cons_zero, List.set_cons_succ, List.getD_cons_zero, List.getD_cons_succ] at hK ⊢
          simp only [d22] at hK ⊢
          have HK := Lib.hid hK
          clear hK
          go_simp
          exact HK.out _ _ rfl (Below.refl _ _)
        · refine OpIs.mk rfl ?_
          intro vs w1 hb hd K hK
          have d23 : vs 23 = .bool true := hd 23 (by kernel_rfl)
          simp only [frameV, List.setIfInBounds_toArray, List.set_cons_zero, List.set_cons_succ, List.getD_cons_zero, List.getD_cons_succ] at hK ⊢
          simp only [d23] at hK ⊢
          have HK := Lib.hid hK
          clear hK
          go_simp
          exact HK.out _ _ rfl (Below.refl _ _)
        · refine OpIs.mk rfl ?_
          intro vs w1 hb hd K hK
          have d24 : vs 24 = .slice (some ⟨g1, 0, none⟩) 2 q1 := hd 24 (by kernel_rfl)
          have d23 : vs 23 = .bool true := hd 23 (by kernel_rfl)
          simp only [frameV, List.setIfInBounds_toArray, List.set_cons_zero, List.set_cons_succ, List.getD_cons_zero, List.getD_cons_succ] at hK ⊢
          simp only [d24, d23] at hK ⊢
          have HK := Lib.hid hK
          clear hK
          go_simp
          exact HK.out _ _ rfl (Below.refl _ _)
        · refine OpIs.mk rfl ?_
          intro vs w1 hb hd K hK
          have d25 : vs 25 = .pointer (some ⟨g1, 1, none⟩) := hd 25 (by kernel_rfl)
          have d23 : vs 23 = .bool true := hd 23 (by kernel_rfl)
          have z1 := cell_call hb HZ2.out
          simp only [frameV, List.setIfInBounds_toArray, List.set_cons_zero, List.set_cons_succ, List.getD_cons_zero, List.getD_cons_succ] at hK ⊢
          simp only [d25, d23] at hK ⊢
          have HK := Lib.hid hK
          clear hK
          go_simp
          exact HK.out _ _ rfl (Below.refl _ _)
        · refine OpIs.mk rfl ?_
          intro vs w1 hb hd K hK
          have d26 : vs 26 = .int .u32 (y : Int) := hd 26 (by kernel_rfl)
          have d23 : vs 23 = .bool true := hd 23 (by kernel_rfl)
          simp only [frameV, List.setIfInBounds_toArray, List.set_cons_zero, List.set_cons_succ, List.getD_cons_zero, List.getD_cons_succ] at hK ⊢
          simp only [d26, d23] at hK ⊢
          have HK := Lib.hid hK
          clear hK
          go_simp
          go_at_call 7
          refine (CW2.out _).mono ?_
          rintro q w8 ⟨rfl, rfl⟩
          exact HK.out _ _ rfl (Below.refl _ _)
        · refine OpIs.mk rfl ?_
          intro vs w1 hb hd K hK
          have d27 : vs 27 = .int .i64 (q0 : Int) := hd 27 (by kernel_rfl)
          have d23 : vs 23 = .bool true := hd 23 (by kernel_rfl)
          have z1 := HQ0.out
          simp only [frameV, List.setIfInBounds_toArray, List.set_cons_zero, List.set_cons_succ, List.getD_cons_zero, List.getD_cons_succ] at hK ⊢
          simp only [d27, d23] at hK ⊢
          have HK := Lib.hid hK
          clear hK
          go_simp
          exact HK.out _ _ rfl (Below.refl _ _)
        · refine OpIs.mk rfl ?_
          intro vs w1 hb hd K hK
          have d23 : vs 23 = .bool true := hd 23 (by kernel_rfl)
          have d28 : vs 28 = .bool true := hd 28 (by kernel_rfl)
          simp only [frameV, List.setIfInBounds_toArray, List.set_cons_zero, List.set_cons_succ, List.getD_cons_zero, List.getD_cons_succ] at hK ⊢
          simp only [d23, d28] at hK ⊢
          have HK := Lib.hid hK
          clear hK
          go_simp
          exact HK.out _ _ rfl (Below.refl _ _)
        · refine OpIs.mk rfl ?_
          intro vs w1 hb hd K hK
          have d29 : vs 29 = .bool true := hd 29 (by kernel_rfl)
          simp only [frameV, List.setIfInBounds_toArray, List.set_cons_zero, List.set_cons_succ, List.getD_cons_zero, List.getD_cons_succ] at hK ⊢
          simp only [d29] at hK ⊢
          have HK := Lib.hid hK
          clear hK
          go_simp
          exact HK.out _ _ rfl (Below.refl _ _)
        · refine OpIs.mk rfl ?_
          intro vs w1 hb hd K hK
          have d30 : vs 30 = .bool true := hd 30 (by kernel_rfl)
          simp only [frameV, List.setIfInBounds_toArray, List.set_cons_zero, List.set_cons_succ, List.getD_cons_zero, List.getD_cons_succ] at hK ⊢
          simp only [d30] at hK ⊢
          have HK := Lib.hid hK
          clear hK
          go_simp
          go_at_call 8
          refine (awake_any _).mono ?_
          rintro q w8 ⟨rfl, hb8⟩
          exact HK.out _ _ rfl hb8
        · refine OpIs.mk rfl ?_
          intro vs w1 hb hd K hK
          have d30 : vs 30 = .bool true := hd 30 (by kernel_rfl)
          have d31 : vs 31 = .bool true := hd 31 (by kernel_rfl)
          simp only [frameV, List.setIfInBounds_toArray, List.set_cons_zero, List.set_cons_succ, List.getD_cons_zero, List.getD_cons_succ] at hK ⊢
          simp only [d30, d31] at hK ⊢
          have HK := Lib.hid hK
          clear hK
          go_simp
          exact HK.out _ _ rfl (Below.refl _ _)
      · intro vs w9 hb hd
        have d32 : vs 32 = .bool true := hd 32 (by omega)
        have HB9 := Lib.hid (HB7.out.trans (hb.mono HB7.out.size))
        simp only [frameV, List.setIfInBounds_toArray, List.set_cons_zero, List.set_cons_succ, List.drop_succ_cons, List.drop_zero, d32]
        clear hb hd
        go_wp2
        go_ret
        exact ⟨rfl, HB9.out⟩
  | true =>
    have hc128 : bits .and .u8 (c : Int) 128 = 128 := by rw [h128, if_pos (by simpa using hgr)]
    clear h128 hgr
    go_wp2
    clear c1 c2 c3 c5
    refine any_region (m := 16) [43, 44, 45, 46, 47, 48, 49, 50, 51, 52, 53, 54, 55, 56, 57, 12] [SV.eq (.slice (some ⟨b2, 0, none⟩) 7 7), SV.eq (.int .i64 (k : Int)), SV.eq (.pointer (some ⟨b2, k, none⟩)), SV.eq (.string wh), SV.eq (.int .i64 (i : Int)), SV.eq (.int .i64 (i : Int)), SV.eq (.int .i64 ((i : Int) + 1)), SV.eq (.string ⟨#[b0]⟩), SV.eq (.slice (some ⟨b3, 0, none⟩) 7 7), SV.eq (.int .i64 (k : Int)), SV.eq (.pointer (some ⟨b3, k, none⟩)), SV.eq (.slice (some ⟨g, 0, none⟩) n n), SV.eq (.int .i64 (i : Int)), SV.eq (.pointer (some ⟨g, i, none⟩)), SV.eq (.int .i64 (cd : Int)), SV.eq (.string ⟨#[b0]⟩)] (by kernel_rfl) (by kernel_rfl) ?_ ?_
    · refine ⟨⟨⟨⟨⟨⟨⟨⟨⟨⟨⟨⟨⟨⟨⟨⟨trivial, ?_⟩, ?_⟩, ?_⟩, ?_⟩, ?_⟩, ?_⟩, ?_⟩, ?_⟩, ?_⟩, ?_⟩, ?_⟩, ?_⟩, ?_⟩, ?_⟩, ?_⟩, ?_⟩
      · refine OpIs.mk rfl ?_
        intro vs w1 hb hd K hK
        simp only [frameV, List.setIfInBounds_toArray, List.set_cons_zero, List.set_cons_succ, List.getD_cons_zero, List.getD_cons_succ] at hK ⊢
        have HK := Lib.hid hK
        clear hK
        go_simp
        exact HK.out _ _ rfl (Below.refl _ _)
      · refine OpIs.mk rfl ?_
        intro vs w1 hb hd K hK
        simp only [frameV, List.setIfInBounds_toArray, List.set_cons_zero, List.set_cons_succ, List.getD_cons_zero, List.getD_cons_succ] at hK ⊢
        have HK := Lib.hid hK
        clear hK
        go_simp
        exact HK.out _ _ rfl (Below.refl _ _)
      · refine OpIs.mk rfl ?_
        intro vs w1 hb hd K hK
        have d0 : vs 0 = .slice (some ⟨b2, 0, none⟩) 7 7 := hd 0 (by kernel_rfl)
        have d1 : vs 1 = .int .i64 (k : Int) := hd 1 (by kernel_rfl)
        simp only [frameV, List.setIfInBounds_toArray, List.set_cons_zero, List.set_cons_succ, List.getD_cons_zero, List.getD_cons_succ] at hK ⊢
        simp only [d0, d1] at hK ⊢
        have HK := Lib.hid hK
        clear hK
        go_simp
        exact HK.out _ _ rfl (Below.refl _ _)
      · refine OpIs.mk rfl ?_
        intro vs w1 hb hd K hK
        have d2 : vs 2 = .pointer (some ⟨b2, k, none⟩) := hd 2 (by kernel_rfl)
        have z1 := cell_call hb HC2.out
        simp only [frameV, List.setIfInBounds_toArray, List.set_cons_zero, List.set_cons_succ, List.getD_cons_zero, List.getD_cons_succ] at hK ⊢
        simp only [d2] at hK ⊢
        have HK := Lib.hid hK
        clear hK
        go_simp
        exact HK.out _ _ rfl (Below.refl _ _)
      · refine OpIs.mk rfl ?_
        intro vs w1 hb hd K hK
        simp only [frameV, List.setIfInBounds_toArray, List.set_cons_zero, List.set_cons_succ, List.getD_cons_zero, List.getD_cons_succ] at hK ⊢
        have HK := Lib.hid hK
        clear hK
        go_simp
        exact HK.out _ _ rfl (Below.refl _ _)
      · refine OpIs.mk rfl ?_
        intro vs w1 hb hd K hK
        simp only [frameV, List.setIfInBounds_toArray, List.set_cons_zero, List.set_cons_succ, List.getD_cons_zero, List.getD_cons_succ] at hK ⊢
        have HK := Lib.hid hK
        clear hK
        go_simp
        exact HK.out _ _ rfl (Below.refl _ _)
      · refine OpIs.mk rfl ?_
        intro vs w1 hb hd K hK
        have d5 : vs 5 = .int .i64 (i : Int) := hd 5 (by kernel_rfl)
        have z1 := HW1.out
        simp only [frameV, List.setIfInBounds_toArray, List.set_cons_zero, List.set_cons_succ, List.getD_cons_zero, List.getD_cons_succ] at hK ⊢
        simp only [d5] at hK ⊢
        have HK := Lib.hid hK
        clear hK
        go_simp
        exact HK.out _ _ rfl (Below.refl _ _)
      · refine OpIs.mk rfl ?_
        intro vs w1 hb hd K hK
        have d3 : vs 3 = .string wh := hd 3 (by kernel_rfl)
        have d4 : vs 4 = .int .i64 (i : Int) := hd 4 (by kernel_rfl)
        have d6 : vs 6 = .int .i64 ((i : Int) + 1) := hd 6 (by kernel_rfl)
        have z1 := HCUT.out
        simp only [frameV, List.setIfInBounds_toArray, List.set_cons_zero, List.set_cons_succ, List.getD_cons_zero, List.getD_cons_succ] at hK ⊢
        simp only [d3, d4, d6] at hK ⊢
        have HK := Lib.hid hK
        clear hK
        go_simp
        exact HK.out _ _ rfl (Below.refl _ _)
      · refine OpIs.mk rfl ?_
        intro vs w1 hb hd K hK
        simp only [frameV, List.setIfInBounds_toArray, List.set_cons_zero, List.set_cons_succ, List.getD_cons_zero, List.getD_cons_succ] at hK ⊢
        have HK := Lib.hid hK
        clear hK
        go_simp
        exact HK.out _ _ rfl (Below.refl _ _)
      · refine OpIs.mk rfl ?_
        intro vs w1 hb hd K hK
        simp only [frameV, List.setIfInBounds_toArray, List.set_cons_zero, List.set_cons_succ, List.getD_cons_zero, List.getD_cons_succ] at hK ⊢
        have HK := Lib.hid hK
        clear hK
        go_simp
        exact HK.out _ _ rfl (Below.refl _ _)
      · refine OpIs.mk rfl ?_
        intro vs w1 hb hd K hK
        have d8 : vs 8 = .slice (some ⟨b3, 0, none⟩) 7 7 := hd 8 (by kernel_rfl)
        have d9 : vs 9 = .int .i64 (k : Int) := hd 9 (by kernel_rfl)
        simp only [frameV, List.setIfInBounds_toArray, List.set_cons_zero, List.set_cons_succ, List.getD_cons_zero, List.getD_cons_succ] at hK ⊢
        simp only [d8, d9] at hK ⊢
        have HK := Lib.hid hK
        clear hK
        go_simp
        exact HK.out _ _ rfl (Below.refl _ _)
      · refine OpIs.mk rfl ?_
        intro vs w1 hb hd K hK
        have d10 : vs 10 = .pointer (some ⟨b3, k, none⟩) := hd 10 (by kernel_rfl)
        have z1 := cell_call hb HC3.out
        simp only [frameV, List.setIfInBounds_toArray, List.set_cons_zero, List.set_cons_succ, List.getD_cons_zero, List.getD_cons_succ] at hK ⊢
        simp only [d10] at hK ⊢
        have HK := Lib.hid hK
        clear hK
        go_simp
        exact HK.out _ _ rfl (Below.refl _ _)
      · refine OpIs.mk rfl ?_
        intro vs w1 hb hd K hK
        simp only [frameV, List.setIfInBounds_toArray, List.set_cons_zero, List.set_cons_succ, List.getD_cons_zero, List.getD_cons_succ] at hK ⊢
        have HK := Lib.hid hK
        clear hK
        go_simp
        exact HK.out _ _ rfl (Below.refl _ _)
      · refine OpIs.mk rfl ?_
        intro vs w1 hb hd K hK
        have d11 : vs 11 = .slice (some ⟨g, 0, none⟩) n n := hd 11 (by kernel_rfl)
        have d12 : vs 12 = .int .i64 (i : Int) := hd 12 (by kernel_rfl)
        simp only [frameV, List.setIfInBounds_toArray, List.set_cons_zero, List.set_cons_succ, List.getD_cons_zero, List.getD_cons_succ] at hK ⊢
        simp only [d11, d12] at hK ⊢
        have HK := Lib.hid hK
        clear hK
        go_simp
        exact HK.out _ _ rfl (Below.refl _ _)
      · refine OpIs.mk rfl ?_
        intro vs w1 hb hd K hK
        have d13 : vs 13 = .pointer (some ⟨g, i, none⟩) := hd 13 (by kernel_rfl)
        have z1 := cell_call hb HC5.out
        simp only [frameV, List.setIfInBounds_toArray, List.set_cons_zero, List.set_cons_succ, List.getD_cons_zero, List.getD_cons_succ] at hK ⊢
        simp only [d13] at hK ⊢
        have HK := Lib.hid hK
        clear hK
        go_simp
        exact HK.out _ _ rfl (Below.refl _ _)
      · refine OpIs.mk rfl ?_
        intro vs w1 hb hd K hK
        have d7 : vs 7 = .string ⟨#[b0]⟩ := hd 7 (by kernel_rfl)
        simp only [frameV, List.setIfInBounds_toArray, List.set_cons_zero, List.set_cons_succ, List.getD_cons_zero, List.getD_cons_succ] at hK ⊢
        simp only [d7] at hK ⊢
        have HK := Lib.hid hK
        clear hK
        go_simp
        exact HK.out _ _ rfl (Below.refl _ _)
    · intro vs w3 hb hd
      have d14 : vs 14 = .int .i64 (cd : Int) := hd 14 (by omega)
      have d15 : vs 15 = .string ⟨#[b0]⟩ := hd 15 (by omega)
      have HB3 := Lib.hid (HB2.out.trans (hb.mono HB2.out.size))
      have HT3 := Lib.hid (HT2.out.below hb (Nat.le_refl _))
      have c1 := cell_call hb HC1.out
      have HM1 := Lib.hid c1
      simp only [frameV, List.setIfInBounds_toArray, List.set_cons_zero, List.set_cons_succ, List.drop_succ_cons, List.drop_zero, d14, d15]
      clear hb hd d14 d15
      obtain ⟨⟨e2, e3, e4, e5⟩, e6, e7, e8, e9⟩ := HALL.out true
      have hcdB : cdB k i true = cd + 32 := by unfold cdB; rw [HCD.out]; simp
      have hltB : ltB k i true = b0.toNat + 32 := by unfold ltB; rw [HB0.out]; simp
      rw [hcdB] at e3 e8
      rw [hltB] at e7
      obtain ⟨x, y, hxy⟩ := two_of e2
      rw [hxy] at e3 e4 e5 e6
      unfold xyL at hxy
      rw [hltB] at hxy
      rw [HR0.out] at e3 hxy
      have hms : mk.size = 2 := by rw [← HMK.out, ← e9]; simp [ByteArray.size]
      have hy32 : y < 4294967296 ∧ x < 4294967296 := by simp at e6; omega
      have e4' : y / 65536 = 0 := by simpa using e4
      have e5' : 32 < y / 256 % 256 := by simpa using e5
      obtain ⟨q0, hq0⟩ : ∃ q, y / 256 % 256 = q := ⟨_, rfl⟩
      obtain ⟨p0, hp0⟩ : ∃ q, y / 65536 = q := ⟨_, rfl⟩
      rw [hq0] at e5'
      rw [hp0] at e4'
      have CW1 := Lib.hid (fun w => E3.weight_1' hp0 hy32.1 w)
      have CW2 := Lib.hid (fun w => E3.weight_2' hq0 hy32.1 w)
      have HQ0 : Hid ((32 : Int) < (q0 : Int)) := by show _ < _; omega
      have HP0 : Hid ((p0 : Int) = 0) := by show _ = _; omega
      obtain ⟨X, hX⟩ : ∃ X, b0.toNat + 32 = X := ⟨_, rfl⟩
      rw [hX] at hxy e7
      have EA : Hid (elsP R0 (T2.sgs (⟨#[UInt8.ofNat X]⟩ ++ mk).data.toList) = [x, y]) := by show _ = _; rw [cat_list HMK.out, ← hxy]
      have EB : Hid (elsP R0 (T2.sgs (⟨(T2.one (cd + 32)).toArray⟩ : ByteArray).data.toList) = [x, y]) := by show _ = _; rw [← e3]
      have S1 : Hid (((⟨#[UInt8.ofNat X]⟩ : ByteArray) ++ mk).size ≤ 100000) := by show _ ≤ _; rw [ByteArray.size_append, size_1, hms]; omega
      have hmx : (⟨#[UInt8.ofNat X]⟩ : ByteArray).size + mk.size ≤ maxLen := by rw [size_1, hms]; simp only [maxLen]; omega
      have hmx2 : 1 + mk.size ≤ 9223372036854775807 := by omega
      have hmx3 : ¬ 9223372036854775807 < 1 + mk.size := by omega
      have CONE : Hid (∀ w, Calls Try.prog 6 #[.int .i64 ((cd : Int) + 32)] w fun e w' => e = .returned (.string ⟨(T2.one (cd + 32)).toArray⟩) ∧ Below w.heap.size w w') := fun w => T2.one_any (cd + 32) w (by omega)
      have hXI : (b0.toNat : Int) + 32 = (X : Int) := by omega
      have hXw : IntKind.u8.wrap (X : Int) = (X : Int) := by rw [IntKind.wrap_u8']; omega
      have hval : ((((⟨#[b0]⟩ : ByteArray)[0]'(Nat.zero_lt_one)).toNat : Int) + 32) % 256 = (X : Int) := by show ((b0.toNat : Int) + 32) % 256 = _; omega
      have hcw : IntKind.i64.wrap ((cd : Int) + 32) = (cd : Int) + 32 := IntWalk.i64_in _ (by omega)
      have hcv : ∀ w : World, (convert 27 9 (.slice (some ⟨w.heap.size, 0, none⟩) 1 1)).run Try.prog (w.alloc (.cells #[.int .u8 (X : Int)] 5)) = .ok (.string ⟨#[UInt8.ofNat X]⟩) (w.alloc (.cells #[.int .u8 (X : Int)] 5)) := fun w => T2.conv_1 w X e7
      have hA := (Below.refl _ w3).alloc (Nat.le_refl _) (.cells #[.int .u8 (X : Int)] 5)
      have HT4 := Lib.hid (HT3.out.below hA (Nat.le_refl _))
      have HB4 := Lib.hid (HB3.out.trans (hA.mono HB3.out.size))
      have c2 := cell_call hA c1
      clear hA
      have S2 : Hid ((⟨(T2.one (cd + 32)).toArray⟩ : ByteArray).size ≤ 100000) := by show _ ≤ _; exact one_small _
      have HXS := Lib.hid hy32
      clear e2 e3 e4 e5 e6 e8 e9 hcdB hltB hxy hy32 e4' e5' hq0 hp0 hms
      have t1 : True := trivial
      go_wp2_with (first
        | (go_at_call 5; have _t := t1; refine (els_two HT4.out _ S1.out EA.out).mono ?_; rintro e w5 ⟨g1, q1, rfl, x1, x2, hb⟩; have HT5 := Lib.hid (HT4.out.below hb (Nat.le_refl _)); have HB5 := Lib.hid (HB4.out.trans (hb.mono HB4.out.size)); clear hb _t t1)
        | (go_at_call 6; refine (CONE.out _).mono ?_; rintro e w6 ⟨rfl, hb⟩; have z1 := cell_call hb x1; have z2 := cell_call hb x2; have HT6 := Lib.hid (HT5.out.below hb (Nat.le_refl _)); have HB6 := Lib.hid (HB5.out.trans (hb.mono HB5.out.size)); clear hb x1 x2)
        | (go_at_call 5; refine (els_two HT6.out _ S2.out EB.out).mono ?_; rintro e w7 ⟨g2, q2, rfl, y1, y2, hb⟩; have HZ1 := Lib.hid (cell_call hb z1); have HZ2 := Lib.hid (cell_call hb z2); have HY1 := Lib.hid y1; have HY2 := Lib.hid y2; have HB7 := Lib.hid (HB6.out.trans (hb.mono HB6.out.size)); clear hb z1 z2 y1 y2))
      refine any_region (m := 33) [86, 87, 88, 89, 90, 91, 92, 93, 94, 95, 96, 97, 98, 99, 100, 101, 102, 103, 104, 105, 106, 107, 108, 109, 110, 111, 112, 113, 114, 115, 116, 117, 118] [SV.eq (.slice (some ⟨g1, 0, none⟩) 2 q1), SV.eq (.pointer (some ⟨g1, 0, none⟩)), SV.eq (.int .u32 (x : Int)), SV.eq (.slice (some ⟨g2, 0, none⟩) 2 q2), SV.eq (.pointer (some ⟨g2, 0, none⟩)), SV.eq (.int .u32 (x : Int)), SV.eq (.bool true), SV.eq (.bool true), SV.eq (.slice (some ⟨g1, 0, none⟩) 2 q1), SV.eq (.pointer (some ⟨g1, 1, none⟩)), SV.eq (.int .u32 (y : Int)), SV.eq (.slice (some ⟨g2, 0, none⟩) 2 q2), SV.eq (.pointer (some ⟨g2, 1, none⟩)), SV.eq (.int .u32 (y : Int)), SV.eq (.bool true), SV.eq (.bool true), SV.eq (.bool true), SV.eq (.slice (some ⟨g1, 0, none⟩) 2 q1), SV.eq (.pointer (some ⟨g1, 1, none⟩)), SV.eq (.int .u32 (y : Int)), SV.eq (.int .i64 (p0 : Int)), SV.eq (.bool true), SV.eq (.bool true), SV.eq (.bool true), SV.eq (.slice (some ⟨g1, 0, none⟩) 2 q1), SV.eq (.pointer (some ⟨g1, 1, none⟩)), SV.eq (.int .u32 (y : Int)), SV.eq (.int .i64 (q0 : Int)), SV.eq (.bool true), SV.eq (.bool true), SV.eq (.bool true), SV.eq (.bool true), SV.eq (.bool true)] (by kernel_rfl) (by kernel_rfl) ?_ ?_
      · refine ⟨⟨⟨⟨⟨⟨⟨⟨⟨⟨⟨⟨⟨⟨⟨⟨⟨⟨⟨⟨⟨⟨⟨⟨⟨⟨⟨⟨⟨⟨⟨⟨⟨trivial, ?_⟩, ?_⟩, ?_⟩, ?_⟩, ?_⟩, ?_⟩, ?_⟩, ?_⟩, ?_⟩, ?_⟩, ?_⟩, ?_⟩, ?_⟩, ?_⟩, ?_⟩, ?_⟩, ?_⟩, ?_⟩, ?_⟩, ?_⟩, ?_⟩, ?_⟩, ?_⟩, ?_⟩, ?_⟩, ?_⟩, ?_⟩, ?_⟩, ?_⟩, ?_⟩, ?_⟩, ?_⟩, ?_⟩
        · refine OpIs.mk rfl ?_
          intro vs w1 hb hd K hK
          simp only [frameV, List.setIfInBounds_toArray, List.set_cons_zero, List.set_cons_succ, List.getD_cons_zero, List.getD_cons_succ] at hK ⊢
          have HK := Lib.hid hK
          clear hK
          go_simp
          exact HK.out _ _ rfl (Below.refl _ _)
        · refine OpIs.mk rfl ?_
          intro vs w1 hb hd K hK
          have d0 : vs 0 = .slice (some ⟨g1, 0, none⟩) 2 q1 := hd 0 (by kernel_rfl)
          simp only [frameV, List.setIfInBounds_toArray, List.set_cons_zero, List.set_cons_succ, List.getD_cons_zero, List.getD_cons_succ] at hK ⊢
          simp only [d0] at hK ⊢
          have HK := Lib.hid hK
          clear hK
          go_simp
          exact HK.out _ _ rfl (Below.refl _ _)
        · refine OpIs.mk rfl ?_
          intro vs w1 hb hd K hK
          have d1 : vs 1 = .pointer (some ⟨g1, 0, none⟩) := hd 1 (by kernel_rfl)
          have z1 := cell_call hb HZ1.out
          simp only [frameV, List.setIfInBounds_toArray, List.set_cons_zero, List.set_cons_succ, List.getD_cons_zero, List.getD_cons_succ] at hK ⊢
          simp only [d1] at hK ⊢
          have HK := Lib.hid hK
          clear hK
          go_simp
          exact HK.out _ _ rfl (Below.refl _ _)
        · refine OpIs.mk rfl ?_
          intro vs w1 hb hd K hK
          simp only [frameV, List.setIfInBounds_toArray, List.set_cons_zero, List.set_cons_succ, List.getD_cons_zero, List.getD_cons_succ] at hK ⊢
          have HK := Lib.hid hK
          clear hK
          go_simp
          exact HK.out _ _ rfl (Below.refl _ _)
        · refine OpIs.mk rfl ?_
          intro vs w1 hb hd K hK
          have d3 : vs 3 = .slice (some ⟨g2, 0, none⟩) 2 q2 := hd 3 (by kernel_rfl)
          simp only [frameV, List.setIfInBounds_toArray, List.set_cons_zero, List.set_cons_succ, List.getD_cons_zero, List.getD_cons_succ] at hK ⊢
          simp only [d3] at hK ⊢
          have HK := Lib.hid hK
          clear hK
          go_simp
          exact HK.out _ _ rfl (Below.refl _ _)
        · refine OpIs.mk rfl ?_
          intro vs w1 hb hd K hK
          have d4 : vs 4 = .pointer (some ⟨g2, 0, none⟩) := hd 4 (by kernel_rfl)
          have z1 := cell_call hb HY1.out
          simp only [frameV, List.setIfInBounds_toArray, List.set_cons_zero, List.set_cons_succ, List.getD_cons_zero, List.getD_cons_succ] at hK ⊢
          simp only [d4] at hK ⊢
          have HK := Lib.hid hK
          clear hK
          go_simp
          exact HK.out _ _ rfl (Below.refl _ _)
        · refine OpIs.mk rfl ?_
          intro vs w1 hb hd K hK
          have d2 : vs 2 = .int .u32 (x : Int) := hd 2 (by kernel_rfl)
          have d5 : vs 5 = .int .u32 (x : Int) := hd 5 (by kernel_rfl)
          simp only [frameV, List.setIfInBounds_toArray, List.set_cons_zero, List.set_cons_succ, List.getD_cons_zero, List.getD_cons_succ] at hK ⊢
          simp only [d2, d5] at hK ⊢
          have HK := Lib.hid hK
          clear hK
          go_simp
          exact HK.out _ _ rfl (Below.refl _ _)
        · refine OpIs.mk rfl ?_
          intro vs w1 hb hd K hK
          have d6 : vs 6 = .bool true := hd 6 (by kernel_rfl)
          simp only [frameV, List.setIfInBounds_toArray, List.set_cons_zero, List.set_cons_succ, List.getD_cons_zero, List.getD_cons_succ] at hK ⊢
          simp only [d6] at hK ⊢
          have HK := Lib.hid hK
          clear hK
          go_simp
          exact HK.out _ _ rfl (Below.refl _ _)
        · refine OpIs.mk rfl ?_
          intro vs w1 hb hd K hK
          have d7 : vs 7 = .bool true := hd 7 (by kernel_rfl)
          simp only [frameV, List.setIfInBounds_toArray, List.set_cons_zero, List.set_cons_succ, List.getD_cons_zero, List.getD_cons_succ] at hK ⊢
          simp only [d7] at hK ⊢
          have HK := Lib.hid hK
          clear hK
          go_simp
          exact HK.out _ _ rfl (Below.refl _ _)
        · refine OpIs.mk rfl ?_
          intro vs w1 hb hd K hK
          have d8 : vs 8 = .slice (some ⟨g1, 0, none⟩) 2 q1 := hd 8 (by kernel_rfl)
          have d7 : vs 7 = .bool true := hd 7 (by kernel_rfl)
          simp only [frameV, List.setIfInBounds_toArray, List.set_cons_zero, List.set_cons_succ, List.getD_cons_zero, List.getD_cons_succ] at hK ⊢
          simp only [d8, d7] at hK ⊢
          have HK := Lib.hid hK
          clear hK
          go_simp
          exact HK.out _ _ rfl (Below.refl _ _)
        · refine OpIs.mk rfl ?_
          intro vs w1 hb hd K hK
          have d9 : vs 9 = .pointer (some ⟨g1, 1, none⟩) := hd 9 (by kernel_rfl)
          have d7 : vs 7 = .bool true := hd 7 (by kernel_rfl)
          have z1 := cell_call hb HZ2.out
          simp only [frameV, List.setIfInBounds_toArray, List.set_cons_zero, List.set_cons_succ, List.getD_cons_zero, List.getD_cons_succ] at hK ⊢
          simp only [d9, d7] at hK ⊢
          have HK := Lib.hid hK
          clear hK
          go_simp
          exact HK.out _ _ rfl (Below.refl _ _)
        · refine OpIs.mk rfl ?_
          intro vs w1 hb hd K hK
          have d7 : vs 7 = .bool true := hd 7 (by kernel_rfl)
          simp only [frameV, List.setIfInBounds_toArray, List.set_cons_zero, List.set_cons_succ, List.getD_cons_zero, List.getD_cons_succ] at hK ⊢
          simp only [d7] at hK ⊢
          have HK := Lib.hid hK
          clear hK
          go_simp
          exact HK.out _ _ rfl (Below.refl _ _)
        · refine OpIs.mk rfl ?_
          intro vs w1 hb hd K hK
          have d11 : vs 11 = .slice (some ⟨g2, 0, none⟩) 2 q2 := hd 11 (by kernel_rfl)
          have d7 : vs 7 = .bool true := hd 7 (by kernel_rfl)
          simp only [frameV, List.setIfInBounds_toArray, List.set_cons_zero, List.set_cons_succ, List.getD_cons_zero, List.getD_cons_succ] at hK ⊢
          simp only [d11, d7] at hK ⊢
          have HK := Lib.hid hK
          clear hK
          go_simp
          exact HK.out _ _ rfl (Below.refl _ _)
        · refine OpIs.mk rfl ?_
          intro vs w1 hb hd K hK
          have d12 : vs 12 = .pointer (some ⟨g2, 1, none⟩) := hd 12 (by kernel_rfl)
          have d7 : vs 7 = .bool true := hd 7 (by kernel_rfl)
          have z1 := cell_call hb HY2.out
          simp only [frameV, List.setIfInBounds_toArray, List.set_cons_zero, List.set_cons_succ, List.getD_cons_zero, List.getD_cons_succ] at hK ⊢
          simp only [d12, d7] at hK ⊢
          have HK := Lib.hid hK
          clear hK
          go_simp
          exact HK.out _ _ rfl (Below.refl _ _)
        · refine OpIs.mk rfl ?_
          intro vs w1 hb hd K hK
          have d10 : vs 10 = .int .u32 (y : Int) := hd 10 (by kernel_rfl)
          have d13 : vs 13 = .int .u32 (y : Int) := hd 13 (by kernel_rfl)
          have d7 : vs 7 = .bool true := hd 7 (by kernel_rfl)
          simp only [frameV, List.setIfInBounds_toArray, List.set_cons_zero, List.set_cons_succ, List.getD_cons_zero, List.getD_cons_succ] at hK ⊢
          simp only [d10, d13, d7] at hK ⊢
          have HK := Lib.hid hK
          clear hK
          go_simp
          exact HK.out _ _ rfl (Below.refl _ _)
        · refine OpIs.mk rfl ?_
          intro vs w1 hb hd K hK
          have d7 : vs 7 = .bool true := hd 7 (by kernel_rfl)
          have d14 : vs 14 = .bool true := hd 14 (by kernel_rfl)
          simp only [frameV, List.setIfInBounds_toArray, List.set_cons_zero, List.set_cons_succ, List.getD_cons_zero, List.getD_cons_succ] at hK ⊢
          simp only [d7, d14] at hK ⊢
          have HK := Lib.hid hK
          clear hK
          go_simp
          exact HK.out _ _ rfl (Below.refl _ _)
        · refine OpIs.mk rfl ?_
          intro vs w1 hb hd K hK
          have d15 : vs 15 = .bool true := hd 15 (by kernel_rfl)
          simp only [frameV, List.setIfInBounds_toArray, List.set_cons_zero, List.set_cons_succ, List.getD_cons_zero, List.getD_cons_succ] at hK ⊢
          simp only [d15] at hK ⊢
          have HK := Lib.hid hK
          clear hK
          go_simp
          exact HK.out _ _ rfl (Below.refl _ _)
        · refine OpIs.mk rfl ?_
          intro vs w1 hb hd K hK
          have d16 : vs 16 = .bool true := hd 16 (by kernel_rfl)
          simp only [frameV, List.setIfInBounds_toArray, List.set_cons_zero, List.set_cons_succ, List.getD_cons_zero, List.getD_cons_succ] at hK ⊢
          simp only [d16] at hK ⊢
          have HK := Lib.hid hK
          clear hK
          go_simp
          exact HK.out _ _ rfl (Below.refl _ _)
        · refine OpIs.mk rfl ?_
          intro vs w1 hb hd K hK
          have d17 : vs 17 = .slice (some ⟨g1, 0, none⟩) 2 q1 := hd 17 (by kernel_rfl)
          have d16 : vs 16 = .bool true := hd 16 (by kernel_rfl)
          simp only [frameV, List.setIfInBounds_toArray, List.set_cons_zero, List.set_cons_succ, List.getD_cons_zero, List.getD_cons_succ] at hK ⊢
          simp only [d17, d16] at hK ⊢
          have HK := Lib.hid hK
          clear hK
          go_simp
          exact HK.out _ _ rfl (Below.refl _ _)
        · refine OpIs.mk rfl ?_
          intro vs w1 hb hd K hK
          have d18 : vs 18 = .pointer (some ⟨g1, 1, none⟩) := hd 18 (by kernel_rfl)
          have d16 : vs 16 = .bool true := hd 16 (by kernel_rfl)
          have z1 := cell_call hb HZ2.out
          simp only [frameV, List.setIfInBounds_toArray, List.set_cons_zero, List.set_cons_succ, List.getD_cons_zero, List.getD_cons_succ] at hK ⊢
          simp only [d18, d16] at hK ⊢
          have HK := Lib.hid hK
          clear hK
          go_simp
          exact HK.out _ _ rfl (Below.refl _ _)
        · refine OpIs.mk rfl ?_
          intro vs w1 hb hd K hK
          have d19 : vs 19 = .int .u32 (y : Int) := hd 19 (by kernel_rfl)
          have d16 : vs 16 = .bool true := hd 16 (by kernel_rfl)
          simp only [frameV, List.setIfInBounds_toArray, List.set_cons_zero, List.set_cons_succ, List.getD_cons_zero, List.getD_cons_succ] at hK ⊢
          simp only [d19, d16] at hK ⊢
          have HK := Lib.hid hK
          clear hK
          go_simp
          go_at_call 7
          refine (CW1.out _).mono ?_
          rintro q w8 ⟨rfl, rfl⟩
          exact HK.out _ _ rfl (Below.refl _ _)
        · refine OpIs.mk rfl ?_
          intro vs w1 hb hd K hK
          have d20 : vs 20 = .int .i64 (p0 : Int) := hd 20 (by kernel_rfl)
          have d16 : vs 16 = .bool true := hd 16 (by kernel_rfl)
          have z1 : ((p0 : Int) == 0) = true := by rw [HP0.out]; rfl
          simp only [frameV, List.setIfInBounds_toArray, List.set_cons_zero, List.set_cons_succ, List.getD_cons_zero, List.getD_cons_succ] at hK ⊢
          simp only [d20, d16] at hK ⊢
          have HK := Lib.hid hK
          clear hK
          go_simp
          exact HK.out _ _ rfl (Below.refl _ _)
        · refine OpIs.mk rfl ?_
          intro vs w1 hb hd K hK
          have d16 : vs 16 = .bool true := hd 16 (by kernel_rfl)
          have d21 : vs 21 = .bool true := hd 21 (by kernel_rfl)
          simp only [frameV, List.setIfInBounds_toArray, List.set_cons_zero, List.set_cons_succ, List.getD_cons_zero, List.getD_cons_succ] at hK ⊢
          simp only [d16, d21] at hK ⊢
          have HK := Lib.hid hK
          clear hK
          go_simp
          exact HK.out _ _ rfl (Below.refl _ _)
        · refine OpIs.mk rfl ?_
          intro vs w1 hb hd K hK
          have d22 : vs 22 = .bool true := hd 22 (by kernel_rfl)
          simp only [frameV, List.setIfInBounds_toArray, List.set_cons_zero, List.set_cons_succ, List.getD_cons_zero, List.getD_cons_succ] at hK ⊢
          simp only [d22] at hK ⊢
          have HK := Lib.hid hK
          clear hK
          go_simp
          exact HK.out _ _ rfl (Below.refl _ _)
        · refine OpIs.mk rfl ?_
          intro vs w1 hb hd K hK
          have d23 : vs 23 = .bool true := hd 23 (by kernel_rfl)
          simp only [frameV, List.setIfInBounds_toArray, List.set_cons_zero, List.set_cons_succ, List.getD_cons_zero, List.getD_cons_succ] at hK ⊢
          simp only [d23] at hK ⊢
          have HK := Lib.hid hK
          clear hK
          go_simp
          exact HK.out _ _ rfl (Below.refl _ _)
        · refine OpIs.mk rfl ?_
          intro vs w1 hb hd K hK
          have d24 : vs 24 = .slice (some ⟨g1, 0, none⟩) 2 q1 := hd 24 (by kernel_rfl)
          have d23 : vs 23 = .bool true := hd 23 (by kernel_rfl)
          simp only [frameV, List.setIfInBounds_toArray, List.set_cons_zero, List.set_cons_succ, List.getD_cons_zero, List.getD_cons_succ] at hK ⊢
          simp only [d24, d23] at hK ⊢
          have HK := Lib.hid hK
          clear hK
          go_simp
          exact HK.out _ _ rfl (Below.refl _ _)
        · refine OpIs.mk rfl ?_
          intro vs w1 hb hd K hK
          have d25 : vs 25 = .pointer (some ⟨g1, 1, none⟩) := hd 25 (by kernel_rfl)
          have d23 : vs 23 = .bool true := hd 23 (by kernel_rfl)
          have z1 := cell_call hb HZ2.out
          simp only [frameV, List.setIfInBounds_toArray, List.set_cons_zero, List.set_cons_succ, List.getD_cons_zero, List.getD_cons_succ] at hK ⊢
          simp only [d25, d23] at hK ⊢
          have HK := Lib.hid hK
          clear hK
          go_simp
          exact HK.out _ _ rfl (Below.refl _ _)
        · refine OpIs.mk rfl ?_
          intro vs w1 hb hd K hK
          have d26 : vs 26 = .int .u32 (y : Int) := hd 26 (by kernel_rfl)
          have d23 : vs 23 = .bool true := hd 23 (by kernel_rfl)
          simp only [frameV, List.setIfInBounds_toArray, List.set_cons_zero, List.set_cons_succ, List.getD_cons_zero, List.getD_cons_succ] at hK ⊢
          simp only [d26, d23] at hK ⊢
          have HK := Lib.hid hK
          clear hK
          go_simp
          go_at_call 7
          refine (CW2.out _).mono ?_
          rintro q w8 ⟨rfl, rfl⟩
          exact HK.out _ _ rfl (Below.refl _ _)
        · refine OpIs.mk rfl ?_
          intro vs w1 hb hd K hK
          have d27 : vs 27 = .int .i64 (q0 : Int) := hd 27 (by kernel_rfl)
          have d23 : vs 23 = .bool true := hd 23 (by kernel_rfl)
          have z1 := HQ0.out
          simp only [frameV, List.setIfInBounds_toArray, List.set_cons_zero, List.set_cons_succ, List.getD_cons_zero, List.getD_cons_succ] at hK ⊢
          simp only [d27, d23] at hK ⊢
          have HK := Lib.hid hK
          clear hK
          go_simp
          exact HK.out _ _ rfl (Below.refl _ _)
        · refine OpIs.mk rfl ?_
          intro vs w1 hb hd K hK
          have d23 : vs 23 = .bool true := hd 23 (by kernel_rfl)
          have d28 : vs 28 = .bool true := hd 28 (by kernel_rfl)
          simp only [frameV, List.setIfInBounds_toArray, List.set_cons_zero, List.set_cons_succ, List.getD_cons_zero, List.getD_cons_succ] at hK ⊢
          simp only [d23, d28] at hK ⊢
          have HK := Lib.hid hK
          clear hK
          go_simp
          exact HK.out _ _ rfl (Below.refl _ _)
        · refine OpIs.mk rfl ?_
          intro vs w1 hb hd K hK
          have d29 : vs 29 = .bool true := hd 29 (by kernel_rfl)
          simp only [frameV, List.setIfInBounds_toArray, List.set_cons_zero, List.set_cons_succ, List.getD_cons_zero, List.getD_cons_succ] at hK ⊢
          simp only [d29] at hK ⊢
          have HK := Lib.hid hK
          clear hK
          go_simp
          exact HK.out _ _ rfl (Below.refl _ _)
        · refine OpIs.mk rfl ?_
          intro vs w1 hb hd K hK
          have d30 : vs 30 = .bool true := hd 30 (by kernel_rfl)
          simp only [frameV, List.setIfInBounds_toArray, List.set_cons_zero, List.set_cons_succ, List.getD_cons_zero, List.getD_cons_succ] at hK ⊢
          simp only [d30] at hK ⊢
          have HK := Lib.hid hK
          clear hK
          go_simp
          go_at_call 8
          refine (awake_any _).mono ?_
          rintro q w8 ⟨rfl, hb8⟩
          exact HK.out _ _ rfl hb8
        · refine OpIs.mk rfl ?_
          intro vs w1 hb hd K hK
          have d30 : vs 30 = .bool true := hd 30 (by kernel_rfl)
          have d31 : vs 31 = .bool true := hd 31 (by kernel_rfl)
          simp only [frameV, List.setIfInBounds_toArray, List.set_cons_zero, List.set_cons_succ, List.getD_cons_zero, List.getD_cons_succ] at hK ⊢
          simp only [d30, d31] at hK ⊢
          have HK := Lib.hid hK
          clear hK
          go_simp
          exact HK.out _ _ rfl (Below.refl _ _)
      · intro vs w9 hb hd
        have d32 : vs 32 = .bool true := hd 32 (by omega)
        have HB9 := Lib.hid (HB7.out.trans (hb.mono HB7.out.size))
        simp only [frameV, List.setIfInBounds_toArray, List.set_cons_zero, List.set_cons_succ, List.drop_succ_cons, List.drop_zero, d32]
        clear hb hd
        go_wp2
        go_ret
        exact ⟨rfl, HB9.out⟩
theorem tableMarks_walk (a m : Int) (w : World) (h : 0 ≤ a ∧ a ≤ 255) (h2 : (Lit.int .i64 m).wf = true) : Calls Try.prog 3 #[.int .u8 a, .int .i64 m] w fun e w' => e = .returned (.bool true) ∧ Below w.heap.size w w' := by
  obtain ⟨c, rfl⟩ : ∃ c : Nat, (c : Int) = a := ⟨a.toNat, by omega⟩
  exact lawK_any (by omega) m w
end Go.Proofs.Ytaabdpfhpolcgaa
