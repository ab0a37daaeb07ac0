"""Memories: a task's pages of words on a disk, with a room of frames in front of it."""

from pagerooms.errors import NoPage, NoRule, NoWord
from pagerooms.walks import RULES, check_room, empty_room


class Store:
    """The words of a task's pages: all on its disk, and those of the pages that are held."""

    def __init__(self, pages, words):
        self.pages = pages
        self.words = words
        # A page is a dict of the words that were written, so what stayed 0 costs nothing.
        self.disk = {}
        self.loaded = {}
        self.changed = {}
        self.backs = 0

    def check(self, page, word):
        """Refuse a page or a word that there is not."""
        if not 0 <= page < self.pages:
            raise NoPage(page)
        if not 0 <= word < self.words:
            raise NoWord(word)

    def load(self, page):
        """Bring the words of a page from the disk."""
        self.loaded[page] = dict(self.disk.get(page, {}))

    def unload(self, page):
        """Let the words of a held page go, and write them back where it is soiled."""
        words = self.loaded.pop(page)
        if page in self.changed:
            del self.changed[page]
            self.disk[page] = words
            self.backs += 1

    def tell(self, page, word):
        """Tell the worth of a word of a held page."""
        return self.loaded[page].get(word, 0)

    def put(self, page, word, worth):
        """Give a word of a held page a worth."""
        self.loaded[page][word] = worth
        self.changed[page] = True


class Memory:
    """The pages of one task, which come into its room when they are asked for."""

    def __init__(self, pages, words, room, *, rule="last"):
        check_room(room)
        # The rule far looks at requests to come, and a memory knows none of them.
        if rule == "far" or rule not in RULES:
            raise NoRule(rule)
        if pages < 1:
            raise NoPage(pages)
        if words < 1:
            raise NoWord(words)
        self.store = Store(pages, words)
        self.taker = empty_room([], room, rule)
        self.requests = []

    def read(self, page, word):
        """Tell the worth of a word."""
        self.fetch(page, word)
        return self.store.tell(page, word)

    def write(self, page, word, worth):
        """Give a word a worth."""
        self.fetch(page, word)
        self.store.put(page, word, worth)

    def walk(self):
        """Tell (page, word, gone) for each request so far."""
        return list(self.requests)

    def held(self):
        """Tell the pages that are held, sorted."""
        return sorted(self.store.loaded)

    def soiled(self):
        """Tell the held pages that were written to since they came in, sorted."""
        return sorted(self.store.changed)

    def written(self):
        """Tell how many times a page was written back."""
        return self.store.backs

    def fetch(self, page, word):
        """Take a request, so that its page is held behind it."""
        # The refusals stand ahead of the first change: what is refused is no request.
        self.store.check(page, word)
        asked = self.taker.ask(page)
        gone = asked[2]
        if gone is not None:
            self.store.unload(gone)
        if asked[1] == "fault":
            self.store.load(page)
        self.requests.append(asked)
