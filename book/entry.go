package book

import (
	"sync"

	"oriel/api"
	"oriel/content"
)

// entry is a text that is held, or that is being read for all who take it meanwhile.
type entry struct {
	once  sync.Once
	takes int // behind the book's mutex: how many Takes were not dropped, those that wait for the reading among them
	says  *content.Content
	wrong api.Errno
}

// enter is the entry of a text, a new one where there is none, taken once more.
func (b *Book) enter(text string) *entry {
	b.mutex.Lock()
	defer b.mutex.Unlock()
	e, is := b.entries[text]
	if !is {
		e = &entry{}
		b.entries[text] = e
	}
	e.takes++
	return e
}

// read reads a text for all who wait at its entry. The mutex is free meanwhile, so that nobody waits for the reading of another text. Only behind it is the text held, by all of them at once: so a wrong one is held at no time.
func (b *Book) read(text string, e *entry) {
	says, wrong, _ := content.Read(text, api.MaxText, b.table)
	b.mutex.Lock()
	defer b.mutex.Unlock()
	delete(b.entries, text)
	if wrong != api.OK {
		e.wrong = wrong
		return
	}
	e.says = &says
	// The content's text is the book's own; the one that was handed in is not kept.
	b.entries[says.Text] = e
	b.held++
	b.reads.Add(1)
}
