package bank

import (
	"runtime"
	"slices"
	"sync"
	"testing"
	"time"
)

// book notes which lanes are begun and which are done, by workers that all write into it.
type book struct {
	lock        sync.Mutex
	begun, done []int
}

// begin tells how many were begun so far, and how many are at work.
func (b *book) begin(lane int) (begun, busy int) {
	b.lock.Lock()
	defer b.lock.Unlock()
	b.begun = append(b.begun, lane)
	return len(b.begun), len(b.begun) - len(b.done)
}

func (b *book) end(lane int) {
	b.lock.Lock()
	defer b.lock.Unlock()
	b.done = append(b.done, lane)
}

// TestShare: each lane is begun once at most, none behind one that isn't, all that are begun are done, and what came of just as many as are wanted stands in their places.
func TestShare(t *testing.T) {
	for n := range 17 {
		for workers := 1; workers <= 16; workers++ {
			for most := -1; most <= n+1; most++ {
				var b book
				made, count := share(n, workers, most, func(lane int) int {
					b.begin(lane)
					defer b.end(lane)
					return lane + 1
				})
				want := max(0, min(most, n))
				if count != want || len(made) != n || want == 0 && len(b.begun) != 0 {
					t.Fatal(n, workers, most, count, made, b.begun)
				}
				told := 0
				for lane, x := range made {
					if x != 0 && x != lane+1 {
						t.Fatal(n, workers, most, made)
					}
					if x != 0 {
						told++
					}
				}
				slices.Sort(b.begun)
				slices.Sort(b.done)
				if told != count || len(b.begun) < count || !slices.Equal(b.begun, b.done) {
					t.Fatal(n, workers, most, count, made, b.begun, b.done)
				}
				for i, lane := range b.begun {
					if lane != i {
						t.Fatal(n, workers, most, b.begun)
					}
				}
			}
		}
	}
}

// TestAtTheSameTime: so many workers are all at work at once: each waits for all the others, and no more are.
func TestAtTheSameTime(t *testing.T) {
	for workers := 1; workers <= 16; workers++ {
		var b book
		met := make(chan struct{})
		answer := make(chan int)
		go func() {
			_, count := share(16, workers, 16, func(lane int) bool {
				begun, busy := b.begin(lane)
				defer b.end(lane)
				if busy > workers {
					t.Error(workers, lane, busy)
				}
				if begun == workers {
					close(met)
				}
				<-met
				return true
			})
			answer <- count
		}()
		select {
		case count := <-answer:
			if count != 16 {
				t.Error(workers, count)
			}
		case <-time.After(time.Minute):
			t.Fatal(workers, "workers wait for each other")
		}
	}
}

// TestStops: once a stop is noticed, no lane is begun any more: of many banks that want one lane some never begin all.
func TestStops(t *testing.T) {
	fewer := 0
	for range 200 {
		var b book
		share(16, 1, 1, func(lane int) bool {
			b.begin(lane)
			return true
		})
		if len(b.begun) < 16 {
			fewer++
		}
	}
	if fewer == 0 {
		t.Error("all lanes are begun each time, though one is wanted")
	}
}

// TestJoined: no worker is left, behind a stop either.
func TestJoined(t *testing.T) {
	ahead := runtime.NumGoroutine()
	for i := range 200 {
		share(16, 1+i%16, i%18, func(lane int) int { return lane })
	}
	// A worker that has told its end may still be counted for a moment.
	for range 1000 {
		if runtime.NumGoroutine() <= ahead {
			return
		}
		time.Sleep(time.Millisecond)
	}
	t.Error(runtime.NumGoroutine(), "were", ahead)
}
