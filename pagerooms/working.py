"""Pages that work: those that the last requests asked for."""

from pagerooms.errors import NoWindow


class Window:
    """The pages that work behind the requests of one task."""

    def __init__(self, size):
        self.size = size
        self.asked = 0
        # The working pages, each with the number of its last request.
        self.latest = {}

    def ask(self, page):
        """Take a request; tell whether its page worked ahead of it, and which pages work no more."""
        worked = page in self.latest
        self.latest[page] = self.asked
        oldest = self.asked - self.size + 1
        gone = sorted([old for old in self.latest if self.latest[old] < oldest])
        for old in gone:
            del self.latest[old]
        self.asked += 1
        return (worked, gone)

    def at_work(self):
        """Tell the pages that work, sorted."""
        return sorted(self.latest)


def check_window(window):
    """Refuse a window below 1."""
    if window < 1:
        raise NoWindow(window)


def working(trace, window):
    """Tell for each request the pages that work behind it."""
    check_window(window)
    pages = Window(window)
    told = []
    for page in trace:
        pages.ask(page)
        told.append(pages.at_work())
    return told


def window_walk(trace, window):
    """Tell (page, word, gone) for each request, where just the working pages are held."""
    check_window(window)
    pages = Window(window)
    told = []
    for page in trace:
        worked, gone = pages.ask(page)
        word = "hit" if worked else "fault"
        told.append((page, word, tuple(gone)))
    return told
